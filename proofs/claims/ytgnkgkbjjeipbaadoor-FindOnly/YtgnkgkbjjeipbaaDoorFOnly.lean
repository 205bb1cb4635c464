/-
  The plain mathematics of a find over any words: what its steps change.
-/
import Derived.Test.YtgnkgkbjjeipbaaDoorFMath
namespace Go.Proofs.YtgnkgkbjjeipbaaDoor
open Go.RowKit (Grown Hid Below)
open Go.Deep
namespace K
set_option maxRecDepth 100000
theorem plain_mk (x : Int) : mkB (plainV x) = false := by
  have e : (plainV x) / 4294967296 / 1073741824 % 2 = 0 := by unfold plainV; omega
  unfold mkB; rw [e]; rfl
/-- What a find knows of x and s, while nobody else writes. -/
structure Xv (c : Cfg) (cs : List Int) (f : Fm) : Prop where
  nx : f.nx ≤ 5
  x : f.nx = 1 ∨ 3 ≤ f.nx → mkB f.x = false
  s : f.nx = 4 → mkB f.s = true ∧ f.s = fd c cs (ixV f.x) (6 + lv c f)
theorem Xv.anew (c : Cfg) (cs : List Int) (f : Fm) (a : Int) : Xv c cs (f.anew a) :=
  ⟨by show 0 ≤ 5; omega, fun h => absurd h (by show ¬ (0 = 1 ∨ 3 ≤ 0); omega), fun h => absurd h (by show ¬ 0 = 4; omega)⟩
theorem Xv.zero {c : Cfg} {cs : List Int} {f : Fm} (h : f.nx = 0) : Xv c cs f := ⟨by omega, fun z => by omega, fun z => by omega⟩
theorem Xv.two {c : Cfg} {cs : List Int} {f : Fm} (h : f.nx = 2) : Xv c cs f := ⟨by omega, fun z => by omega, fun z => by omega⟩
theorem Xv.step {c : Cfg} {cs : List Int} {f : Fm} (h : Xv c cs f) (cnt : Int) (g : Gs) : Xv c (fC c cs g f) (fF c cs cnt g f) := by
  by_cases hd : f.d = true
  · obtain ⟨e1, e2, _⟩ := fF_done (c := c) (cs := cs) (cnt := cnt) (g := g) hd
    rw [e1, e2]; exact h
  · have hd' : f.d = false := by simpa using hd
    have hcs0 : f.nx ≠ 2 → f.nx ≠ 4 → fC c cs g f = cs := fun h2 h4 => by unfold fC; rw [if_neg hd, if_neg h2, if_neg h4]
    rcases (by have := h.nx; omega : f.nx = 0 ∨ f.nx = 1 ∨ f.nx = 2 ∨ f.nx = 3 ∨ f.nx = 4 ∨ f.nx = 5) with e | e | e | e | e | e
    · have ef : fF c cs cnt g f = if mkB (rdW c cs f) = true then f.anew (atF c cnt f) else if vlB (rdW c cs f) = false then f.ended c (atF c cnt f) 0 0 else { f with x := rdW c cs f, nx := 1, at_ := atF c cnt f } := by unfold fF; rw [if_neg hd, e]; rfl
      rw [ef, hcs0 (by omega) (by omega)]
      by_cases hm : mkB (rdW c cs f) = true
      · rw [if_pos hm]; exact Xv.zero rfl
      · rw [if_neg hm]
        split
        · exact Xv.zero rfl
        · exact ⟨by show 1 ≤ 5; omega, fun _ => by show mkB (rdW c cs f) = false; simpa using hm, fun z => absurd z (by show ¬ 1 = 4; omega)⟩
    · have ef : fF c cs cnt g f = { f with era := rdG cs 0, nx := if rdG cs 0 = g.l then 3 else 2 } := by unfold fF; rw [if_neg hd, e]; rfl
      rw [ef, hcs0 (by omega) (by omega)]
      by_cases hm : rdG cs 0 = g.l
      · rw [if_pos hm]; exact ⟨by show 3 ≤ 5; omega, fun _ => h.x (Or.inl e), fun z => absurd z (by show ¬ 3 = 4; omega)⟩
      · rw [if_neg hm]; exact Xv.two rfl
    · have ef : fF c cs cnt g f = if g.u < c.s then { f with nx := 0 } else f.anew f.at_ := by unfold fF; rw [if_neg hd, e]; rfl
      rw [ef]
      split
      · exact Xv.zero rfl
      · exact Xv.zero rfl
    · have ef : fF c cs cnt g f = { f with s := fd c cs (ixV f.x) (6 + lv c f), nx := if mkB (fd c cs (ixV f.x) (6 + lv c f)) = true then 4 else 5 } := by unfold fF; rw [if_neg hd, e]; rfl
      rw [ef, hcs0 (by omega) (by omega)]
      by_cases hm : mkB (fd c cs (ixV f.x) (6 + lv c f)) = true
      · rw [if_pos hm]; exact ⟨by show 4 ≤ 5; omega, fun _ => h.x (Or.inr (by omega)), fun _ => ⟨hm, rfl⟩⟩
      · rw [if_neg hm]; exact ⟨by show 5 ≤ 5; omega, fun _ => h.x (Or.inr (by omega)), fun z => absurd z (by show ¬ 5 = 4; omega)⟩
    · have ef : fF c cs cnt g f = if (acV cs 3 (clV' c (ixV f.pr) (6 + lv c f)) (plainV f.pr) f.x (plainV f.s)).d = true then { f with nx := 0 } else f.anew f.at_ := by unfold fF; rw [if_neg hd, e]; rfl
      rw [ef]
      split
      · exact Xv.zero rfl
      · exact Xv.zero rfl
    · have ef : fF c cs cnt g f = if f.k ≤ fd c cs (ixV f.x) 1 then f.ended c f.at_ f.x (fd c cs (ixV f.x) 1) else { f with pr := f.x, nx := 0 } := by unfold fF; rw [if_neg hd, e]; rfl
      rw [ef, hcs0 (by omega) (by omega)]
      split
      · exact Xv.zero rfl
      · exact Xv.zero rfl
/-- A load changes nothing. -/
theorem load_on (cs : List Int) (x via a b : Int) : (acV cs 1 x via a b).o = (acV cs 1 x via a b).n := by
  unfold acV; split
  · show cs.getD x.toNat 0 = bhV 1 (cs.getD x.toNat 0) a b; simp [bhV]
  · rfl
/-- A store into a reservation that changes a word is one of that thread's. -/
theorem res_on {c : Cfg} {cs : List Int} {a b e : Int} (h : ¬ (acV cs 2 (rsV c a b) 0 0 e).o = (acV cs 2 (rsV c a b) 0 0 e).n) : whV c (acV cs 2 (rsV c a b) 0 0 e).c = ⟨2, a, b⟩ := by
  have hx : hasC cs (rsV c a b) := by
    by_cases hx : hasC cs (rsV c a b)
    · exact hx
    · exfalso; apply h; unfold acV; rw [if_neg hx]
  have hi : inR c a b := rs_in hx.1
  have e1 : (acV cs 2 (rsV c a b) 0 0 e).c = rsV c a b := by unfold acV; rw [if_pos hx]
  have e2 : rsV c a b = 1 + a * c.s + b := if_pos hi
  rw [e1, e2]; exact (res_wh hi).1
/-- A swap that changes a word was of x, into s without its mark. -/
theorem swap_on {c : Cfg} {cs : List Int} {i f via old v : Int} (h : ¬ (acV cs 3 (clV' c i f) via old v).o = (acV cs 3 (clV' c i f) via old v).n) :
    inF c i f ∧ (acV cs 3 (clV' c i f) via old v).c = clV' c i f ∧ whV c (clV' c i f) = ⟨3, i, f⟩ ∧ (acV cs 3 (clV' c i f) via old v).o = old ∧ (acV cs 3 (clV' c i f) via old v).n = v ∧ rdG cs (clV' c i f) = old := by
  have hx : hasC cs (clV' c i f) := by
    by_cases hx : hasC cs (clV' c i f)
    · exact hx
    · exfalso; apply h; unfold acV; rw [if_neg hx]
  have ea : acV cs 3 (clV' c i f) via old v = ⟨3, clV' c i f, via, cs.getD (clV' c i f).toNat 0, bhV 3 (cs.getD (clV' c i f).toNat 0) old v, bhB 3 (cs.getD (clV' c i f).toNat 0) old⟩ := if_pos hx
  have hi : inF c i f := by
    by_cases hi : inF c i f
    · exact hi
    · exfalso
      have e2 : clV' c i f = -1 := if_neg hi
      have := hx.1; omega
  have e2 : clV' c i f = 1 + c.t * c.s + i * (6 + c.h) + f := if_pos hi
  rw [ea] at h ⊢
  have hh : cs.getD (clV' c i f).toNat 0 = old := by
    by_cases q : cs.getD (clV' c i f).toNat 0 = old
    · exact q
    · exfalso; apply h; show cs.getD (clV' c i f).toNat 0 = bhV 3 (cs.getD (clV' c i f).toNat 0) old v; generalize cs.getD (clV' c i f).toNat 0 = H at q; simp [bhV, q]
  refine ⟨hi, rfl, by rw [e2]; exact (fld_wh hi).1, hh, ?_, by rw [rdG_eq, if_pos hx]; exact hh⟩
  show bhV 3 (cs.getD (clV' c i f).toNat 0) old v = v
  rw [hh]; simp [bhV]
/-- Behind it another node's field tells what it told. -/
theorem swap_other {c : Cfg} {cs : List Int} {i j f old v : Int} (hl : (cs.length : Int) = lnV c) (hi : inF c i f) (ho : rdG cs (clV' c i f) = old) (hne : ¬ i = j) : fd c (clV cs 3 (clV' c i f) old v) j f = fd c cs j f := by
  unfold fd
  rw [(rd_swap cs _ _ _ _ (cl_has hl hi) ho).1, if_neg]
  intro z
  by_cases hj : inF c j f
  · exact hne (cl_inj hj hi z).1.symm
  · have e2 : clV' c j f = -1 := if_neg hj
    have := (cl_has hl hi).1; omega
end K
end Go.Proofs.YtgnkgkbjjeipbaaDoor
