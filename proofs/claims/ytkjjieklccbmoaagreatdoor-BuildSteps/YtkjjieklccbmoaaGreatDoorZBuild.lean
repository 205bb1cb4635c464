/-
  The plain mathematics of a build: a machine over a world's words, as a function; what it leaves, alone; chains of nodes, level by level.
  The contracts of package build: a build's block, and what its calls make of it.
  The contracts of package build: a build, its find, its guard and a world's words; its steps find and own.
  The contracts of package build: its steps set and link; any step.
  The plain mathematics of a build, alone: chains of nodes, level by level; what is there when it is done, and in how many steps.
-/
import Derived.Test.YtkjjieklccbmoaaGreatDoorZFind
import Derived.Test.YtkjjieklccbmoaaGreatDoorZLay
import Derived.Deep.RegionHeld3
namespace Go.Proofs.YtkjjieklccbmoaaGreatDoor
open Go.RowKit (Grown Hid Below)
open Go.Deep
namespace K
set_option maxRecDepth 100000
/-- A build: its node, the node's key, on how many levels; the level that is next; what comes next (0 find, 1 own, 2 set, 3 link); its find; what the node named; is it done? -/
structure Bm where
  h : Int
  k : Int
  tl : Int
  lv : Int
  nx : Nat
  f : Fm
  w : Int
  d : Bool
def Bm.su (s : Bm) : Int := enV s.f.d s.f.ss s.lv
def Bm.pr (s : Bm) : Int := enV s.f.d s.f.ps s.lv
def Bm.ke (s : Bm) : Int := enV s.f.d s.f.ks s.lv
def Bm.look (s : Bm) (c : Cfg) : Bm := { s with nx := 1, d := decide (s.tl ≤ s.lv ∨ c.h ≤ s.lv ∨ (s.su ≠ 0 ∧ s.ke = s.k)) }
def Bm.anew (s : Bm) : Bm := { s with nx := 0, f := fmS s.k }
def bmS (h k tl : Int) : Bm := ⟨h, k, tl, 1, 0, fmS k, 0, decide (tl < 2)⟩
def Bm.own (s : Bm) (c : Cfg) (cs : List Int) : Int := fd c cs (ixV s.h) (6 + s.lv)
def Bm.aS (s : Bm) (c : Cfg) (cs : List Int) : Acc := acV cs 3 (clV' c (ixV s.h) (6 + s.lv)) (plainV s.h) s.w s.su
def Bm.aL (s : Bm) (c : Cfg) (cs : List Int) : Acc := acV cs 3 (clV' c (ixV s.pr) (6 + s.lv)) (plainV s.pr) s.su s.h
/-- The machine behind a step; the cells; the guard; how many accesses there were; the last one. -/
def bF (c : Cfg) (cs : List Int) (cnt : Int) (g : Gs) (s : Bm) : Bm :=
  if s.d = true then s else
  match s.nx with
  | 0 => if (fF c cs cnt g s.f).d = true then ({ s with f := fF c cs cnt g s.f } : Bm).look c else { s with f := fF c cs cnt g s.f }
  | 1 => { s with w := s.own c cs, nx := if s.own c cs = s.su then 3 else 2, d := mkB (s.own c cs) }
  | 2 => { s with nx := if (s.aS c cs).d = true then 3 else 1 }
  | _ => if (s.aL c cs).d = true then ({ s with lv := s.lv + 1 } : Bm).look c else s.anew
def bC (c : Cfg) (cs : List Int) (g : Gs) (s : Bm) : List Int :=
  if s.d = true then cs else
  match s.nx with
  | 0 => fC c cs g s.f
  | 1 => cs
  | 2 => clV cs 3 (clV' c (ixV s.h) (6 + s.lv)) s.w s.su
  | _ => clV cs 3 (clV' c (ixV s.pr) (6 + s.lv)) s.su s.h
def bG (c : Cfg) (g : Gs) (s : Bm) : Gs := if s.d = true then g else if s.nx = 0 then fG c g s.f else g
def bN (cnt : Int) (s : Bm) : Int := if s.d = true then cnt else cnt + 1
def bA (c : Cfg) (cs : List Int) (g : Gs) (s : Bm) (a : Acc) : Acc :=
  if s.d = true then a else
  match s.nx with
  | 0 => fA c cs g s.f a
  | 1 => acV cs 1 (clV' c (ixV s.h) (6 + s.lv)) (plainV s.h) 0 0
  | 2 => s.aS c cs
  | _ => s.aL c cs
/-- A machine's numbers. -/
structure BI (c : Cfg) (s : Bm) : Prop where
  hW : isW s.h
  kW : isW s.k
  wW : isW s.w
  fk : s.f.k = s.k
  nx : s.nx ≤ 3
  l1 : 1 ≤ s.lv
  l2 : s.lv ≤ c.h
  fi : FI c s.f
  ps : ∀ x ∈ s.f.ps, isW x
  ss : ∀ x ∈ s.f.ss, isW x
  ks : ∀ x ∈ s.f.ks, isW x
  lt : s.d = false → s.lv < s.tl
  f0 : s.d = false → s.nx = 0 → s.f.d = false
  f1 : s.d = false → 1 ≤ s.nx → s.f.d = true ∧ s.lv < c.h
theorem isW0 : isW 0 := ⟨Int.le_refl _, by decide⟩
theorem enV_word {d : Bool} {xs : List Int} (h : ∀ x ∈ xs, isW x) (l : Int) : isW (enV d xs l) := by
  unfold enV
  split
  · rename_i q
    have : xs.length - 1 - l.toNat < xs.length := by omega
    rw [List.getD_eq_getElem?_getD, List.getElem?_eq_getElem this]
    exact h _ (List.getElem_mem _)
  · exact isW0
theorem BI.suW {c : Cfg} {s : Bm} (h : BI c s) : isW s.su := enV_word h.ss _
theorem BI.prW {c : Cfg} {s : Bm} (h : BI c s) : isW s.pr := enV_word h.ps _
theorem mem_snoc {xs : List Int} (h : ∀ x ∈ xs, isW x) {y : Int} (hy : isW y) : ∀ x ∈ xs ++ [y], isW x := by
  intro x hx
  rcases List.mem_append.1 hx with q | q
  · exact h x q
  · simp at q; rw [q]; exact hy
/-- A find's notes are words. -/
def Fws (f : Fm) : Prop := (∀ x ∈ f.ps, isW x) ∧ (∀ x ∈ f.ss, isW x) ∧ ∀ x ∈ f.ks, isW x
theorem Fws.anew (f : Fm) (a : Int) : Fws (f.anew a) := by
  refine ⟨fun x hx => ?_, fun x hx => ?_, fun x hx => ?_⟩
  · exact absurd hx (by show ¬ x ∈ []; simp)
  · exact absurd hx (by show ¬ x ∈ []; simp)
  · exact absurd hx (by show ¬ x ∈ []; simp)
theorem Fws.ended {c : Cfg} {f : Fm} (h : Fws f) (hp : isW f.pr) (a : Int) {su ke : Int} (hs : isW su) (hk : isW ke) : Fws (f.ended c a su ke) :=
  ⟨mem_snoc h.1 hp, mem_snoc h.2.1 hs, mem_snoc h.2.2 hk⟩
theorem Fws.step {c : Cfg} {cs : List Int} {f : Fm} (h : Fws f) (fi : FI c f) (hw : Wds cs) (cnt : Int) (g : Gs) : Fws (fF c cs cnt g f) := by
  by_cases hd : f.d = true
  · rw [(fF_done (c := c) (cs := cs) (cnt := cnt) (g := g) hd).1]; exact h
  · rcases (by have := fi.nx; omega : f.nx = 0 ∨ f.nx = 1 ∨ f.nx = 2 ∨ f.nx = 3 ∨ f.nx = 4 ∨ f.nx = 5) with e | e | e | e | e | e
    · have ef : fF c cs cnt g f = if mkB (rdW c cs f) = true then f.anew (atF c cnt f) else if vlB (rdW c cs f) = false then f.ended c (atF c cnt f) 0 0 else { f with x := rdW c cs f, nx := 1, at_ := atF c cnt f } := by unfold fF; rw [if_neg hd, e]; rfl
      rw [ef]
      split
      · exact Fws.anew _ _
      · split
        · exact h.ended fi.pr _ isW0 isW0
        · exact h
    · have ef : fF c cs cnt g f = { f with era := rdG cs 0, nx := if rdG cs 0 = g.l then 3 else 2 } := by unfold fF; rw [if_neg hd, e]; rfl
      rw [ef]; exact h
    · have ef : fF c cs cnt g f = if g.u < c.s then { f with nx := 0 } else f.anew f.at_ := by unfold fF; rw [if_neg hd, e]; rfl
      rw [ef]
      split
      · exact h
      · exact Fws.anew _ _
    · have ef : fF c cs cnt g f = { f with s := fd c cs (ixV f.x) (6 + lv c f), nx := if mkB (fd c cs (ixV f.x) (6 + lv c f)) = true then 4 else 5 } := by unfold fF; rw [if_neg hd, e]; rfl
      rw [ef]; exact h
    · have ef : fF c cs cnt g f = if (acV cs 3 (clV' c (ixV f.pr) (6 + lv c f)) (plainV f.pr) f.x (plainV f.s)).d = true then { f with nx := 0 } else f.anew f.at_ := by unfold fF; rw [if_neg hd, e]; rfl
      rw [ef]
      split
      · exact h
      · exact Fws.anew _ _
    · have ef : fF c cs cnt g f = if f.k ≤ fd c cs (ixV f.x) 1 then f.ended c f.at_ f.x (fd c cs (ixV f.x) 1) else { f with pr := f.x, nx := 0 } := by unfold fF; rw [if_neg hd, e]; rfl
      rw [ef]
      split
      · exact h.ended fi.pr _ fi.x (fd_word hw _ _)
      · exact h
theorem fF_k (c : Cfg) (cs : List Int) (cnt : Int) (g : Gs) (f : Fm) : (fF c cs cnt g f).k = f.k := by
  unfold fF
  split
  · rfl
  · split
    · split
      · rfl
      · split
        · rfl
        · rfl
    · rfl
    · split <;> rfl
    · rfl
    · split <;> rfl
    · split <;> rfl
theorem look_d {c : Cfg} {s : Bm} (h : (s.look c).d = false) : s.lv < s.tl ∧ s.lv < c.h ∧ ¬ (s.su ≠ 0 ∧ s.ke = s.k) := by
  have z : decide (s.tl ≤ s.lv ∨ c.h ≤ s.lv ∨ (s.su ≠ 0 ∧ s.ke = s.k)) = false := h
  have := of_decide_eq_false z
  exact ⟨by omega, by omega, fun q => this (Or.inr (Or.inr q))⟩
theorem bF_0 {c : Cfg} {cs : List Int} {cnt : Int} {g : Gs} {s : Bm} (hd : s.d = false) (e : s.nx = 0) : bF c cs cnt g s = (if (fF c cs cnt g s.f).d = true then ({ s with f := fF c cs cnt g s.f } : Bm).look c else { s with f := fF c cs cnt g s.f }) ∧ bC c cs g s = fC c cs g s.f ∧ bG c g s = fG c g s.f := by
  have h : ¬ s.d = true := by rw [hd]; decide
  unfold bF bC bG
  rw [if_neg h, if_neg h, if_neg h, if_pos e, e]
  exact ⟨rfl, rfl, rfl⟩
theorem bF_1 {c : Cfg} {cs : List Int} {cnt : Int} {g : Gs} {s : Bm} (hd : s.d = false) (e : s.nx = 1) : bF c cs cnt g s = { s with w := s.own c cs, nx := if s.own c cs = s.su then 3 else 2, d := mkB (s.own c cs) } ∧ bC c cs g s = cs ∧ bG c g s = g := by
  have h : ¬ s.d = true := by rw [hd]; decide
  unfold bF bC bG
  rw [if_neg h, if_neg h, if_neg h, if_neg (show ¬ s.nx = 0 by omega), e]
  exact ⟨rfl, rfl, rfl⟩
theorem bF_2 {c : Cfg} {cs : List Int} {cnt : Int} {g : Gs} {s : Bm} (hd : s.d = false) (e : s.nx = 2) : bF c cs cnt g s = { s with nx := if (s.aS c cs).d = true then 3 else 1 } ∧ bC c cs g s = clV cs 3 (clV' c (ixV s.h) (6 + s.lv)) s.w s.su ∧ bG c g s = g := by
  have h : ¬ s.d = true := by rw [hd]; decide
  unfold bF bC bG
  rw [if_neg h, if_neg h, if_neg h, if_neg (show ¬ s.nx = 0 by omega), e]
  exact ⟨rfl, rfl, rfl⟩
theorem bF_3 {c : Cfg} {cs : List Int} {cnt : Int} {g : Gs} {s : Bm} (hd : s.d = false) (e : s.nx = 3) : bF c cs cnt g s = (if (s.aL c cs).d = true then ({ s with lv := s.lv + 1 } : Bm).look c else s.anew) ∧ bC c cs g s = clV cs 3 (clV' c (ixV s.pr) (6 + s.lv)) s.su s.h ∧ bG c g s = g := by
  have h : ¬ s.d = true := by rw [hd]; decide
  unfold bF bC bG
  rw [if_neg h, if_neg h, if_neg h, if_neg (show ¬ s.nx = 0 by omega), e]
  exact ⟨rfl, rfl, rfl⟩
theorem bF_done {c : Cfg} {cs : List Int} {cnt : Int} {g : Gs} {s : Bm} (hd : s.d = true) : bF c cs cnt g s = s ∧ bC c cs g s = cs ∧ bG c g s = g ∧ bN cnt s = cnt := by
  unfold bF bC bG bN
  rw [if_pos hd, if_pos hd, if_pos hd, if_pos hd]; exact ⟨rfl, rfl, rfl, rfl⟩
theorem fmS_anew (k : Int) : fmS k = (⟨k, 0, 0, 0, 0, 0, 0, [], [], [], 0, false⟩ : Fm).anew 0 := rfl
theorem Fws.S (k : Int) : Fws (fmS k) := Fws.anew _ _
theorem BI.start {c : Cfg} (R : Rt c) {h k : Int} (tl : Int) (hh : isW h) (hk : isW k) : BI c (bmS h k tl) :=
  ⟨hh, hk, isW0, rfl, by show 0 ≤ 3; omega, by show (1 : Int) ≤ 1; omega, R.h0, FI.of_anew R 0, (Fws.S k).1, (Fws.S k).2.1, (Fws.S k).2.2, fun h => by
    have z : decide (tl < 2) = false := h
    have := of_decide_eq_false z
    show (1 : Int) < tl; omega, fun _ _ => rfl, fun _ h => absurd h (by show ¬ 1 ≤ 0; omega)⟩
theorem BI.look {c : Cfg} {s : Bm} (h : BI c s) (hd : s.f.d = true) : BI c (s.look c) :=
  ⟨h.hW, h.kW, h.wW, h.fk, by show 1 ≤ 3; omega, h.l1, h.l2, h.fi, h.ps, h.ss, h.ks, fun q => (look_d q).1, fun _ q => absurd q (by show ¬ 1 = 0; omega), fun q _ => ⟨hd, (look_d q).2.1⟩⟩
theorem BI.step {c : Cfg} {cs : List Int} {s : Bm} (R : Rt c) (h : BI c s) (hw : Wds cs) (cnt : Int) (g : Gs) : BI c (bF c cs cnt g s) := by
  cases hd : s.d with
  | true => rw [(bF_done (c := c) (cs := cs) (cnt := cnt) (g := g) hd).1]; exact h
  | false =>
    rcases (by have := h.nx; omega : s.nx = 0 ∨ s.nx = 1 ∨ s.nx = 2 ∨ s.nx = 3) with e | e | e | e
    · rw [(bF_0 (c := c) (cs := cs) (cnt := cnt) (g := g) hd e).1]
      have fs := Fws.step (cnt := cnt) (g := g) ⟨h.ps, h.ss, h.ks⟩ h.fi hw
      have fi := h.fi.step R hw cnt g
      have B : ∀ q : (fF c cs cnt g s.f).d = false ∨ (fF c cs cnt g s.f).d = true, BI c { s with f := fF c cs cnt g s.f, d := (fF c cs cnt g s.f).d } := fun q =>
        ⟨h.hW, h.kW, h.wW, (fF_k _ _ _ _ _).trans h.fk, h.nx, h.l1, h.l2, fi, fs.1, fs.2.1, fs.2.2, fun _ => h.lt hd, fun z _ => z, fun _ z => absurd z (by show ¬ 1 ≤ s.nx; omega)⟩
      cases q : (fF c cs cnt g s.f).d with
      | true =>
        rw [if_pos rfl]
        have b := B (Or.inr q)
        exact ⟨b.hW, b.kW, b.wW, b.fk, by show 1 ≤ 3; omega, b.l1, b.l2, b.fi, b.ps, b.ss, b.ks, fun q => (look_d q).1, fun _ q => absurd q (by show ¬ 1 = 0; omega), fun z _ => ⟨q, (look_d z).2.1⟩⟩
      | false =>
        rw [if_neg (by decide)]
        have b := B (Or.inl q)
        exact ⟨b.hW, b.kW, b.wW, b.fk, b.nx, b.l1, b.l2, b.fi, b.ps, b.ss, b.ks, fun _ => h.lt hd, fun _ _ => q, fun _ z => absurd z (by show ¬ 1 ≤ s.nx; omega)⟩
    · rw [(bF_1 (c := c) (cs := cs) (cnt := cnt) (g := g) hd e).1]
      have f1 := h.f1 hd (by omega)
      exact ⟨h.hW, h.kW, fd_word hw _ _, h.fk, by show (if s.own c cs = s.su then 3 else 2) ≤ 3; split <;> omega, h.l1, h.l2, h.fi, h.ps, h.ss, h.ks, fun _ => h.lt hd, fun _ q => absurd q (by show ¬ (if s.own c cs = s.su then 3 else 2) = 0; split <;> omega), fun _ _ => f1⟩
    · rw [(bF_2 (c := c) (cs := cs) (cnt := cnt) (g := g) hd e).1]
      have f1 := h.f1 hd (by omega)
      exact ⟨h.hW, h.kW, h.wW, h.fk, by show (if (s.aS c cs).d = true then 3 else 1) ≤ 3; split <;> omega, h.l1, h.l2, h.fi, h.ps, h.ss, h.ks, fun _ => h.lt hd, fun _ q => absurd q (by show ¬ (if (s.aS c cs).d = true then 3 else 1) = 0; split <;> omega), fun _ _ => f1⟩
    · rw [(bF_3 (c := c) (cs := cs) (cnt := cnt) (g := g) hd e).1]
      have f1 := h.f1 hd (by omega)
      split
      · exact ⟨h.hW, h.kW, h.wW, h.fk, by show 1 ≤ 3; omega, by have := h.l1; show 1 ≤ s.lv + 1; omega, by show s.lv + 1 ≤ c.h; omega, h.fi, h.ps, h.ss, h.ks, fun q => (look_d q).1, fun _ q => absurd q (by show ¬ 1 = 0; omega), fun z _ => ⟨f1.1, (look_d z).2.1⟩⟩
      · exact ⟨h.hW, h.kW, h.wW, rfl, by show 0 ≤ 3; omega, h.l1, h.l2, FI.of_anew R 0, (Fws.S _).1, (Fws.S _).2.1, (Fws.S _).2.2, fun _ => h.lt hd, fun _ _ => rfl, fun _ q => absurd q (by show ¬ 1 ≤ 0; omega)⟩
theorem bC_wds {c : Cfg} {cs : List Int} {g : Gs} {s : Bm} (h : BI c s) (hw : Wds cs) : Wds (bC c cs g s) := by
  unfold bC
  split
  · exact hw
  · split
    · exact fC_wds hw h.fi
    · exact hw
    · exact wds_clV hw _ _ _ (by decide) h.suW
    · exact wds_clV hw _ _ _ (by decide) h.hW
theorem bC_len (c : Cfg) (cs : List Int) (g : Gs) (s : Bm) : (bC c cs g s).length = cs.length := by
  unfold bC
  split
  · rfl
  · split
    · exact fC_len _ _ _ _
    · rfl
    · exact clV_len _ _ _ _ _
    · exact clV_len _ _ _ _ _
end K
end Go.Proofs.YtkjjieklccbmoaaGreatDoor
namespace Go.Proofs.YtkjjieklccbmoaaGreatDoor
open Go.RowKit (Grown Hid Below)
open Go.Deep
namespace K
set_option maxRecDepth 100000
/-- A build's block. -/
def BBv (w : World) (b : Nat) (pv : Value) (h k tl : Int) (v : Value) (lv sn : Int) : Prop := w.heap[b]? = some (.cells #[pv, .int .u64 h, .int .u64 k, .int .i64 tl, v, .int .i64 lv, .int .u64 sn] 72 (0, 0))
def BB (w : World) (b fb : Nat) (h k tl : Int) (v : Value) (lv sn : Int) : Prop := BBv w b (.pointer (some ⟨fb, 0, none⟩)) h k tl v lv sn
theorem BB.kept {l : List Nat} {w w' : World} {b fb : Nat} {v : Value} {h k tl lv sn : Int} (hB : BB w b fb h k tl v lv sn) (kk : Kept l w w') (hb : b ∉ l) : BB w' b fb h k tl v lv sn := kk.blk hB hb
theorem BBv.set0 {w : World} {b fb : Nat} {pv v : Value} {h k tl lv sn : Int} (hB : BBv w b pv h k tl v lv sn) : BB (w.setCell ⟨b, 0, none⟩ (.pointer (some ⟨fb, 0, none⟩))) b fb h k tl v lv sn := by
  have z := blk_set hB 0 (.pointer (some ⟨fb, 0, none⟩))
  simpa [BB, BBv] using z
theorem BB.set4 {w : World} {b fb : Nat} {v : Value} {h k tl lv sn : Int} (hB : BB w b fb h k tl v lv sn) (y : Value) : BB (w.setCell ⟨b, 4, none⟩ y) b fb h k tl y lv sn := by
  have z := blk_set hB 4 y
  simpa [BB, BBv] using z
theorem BB.set5 {w : World} {b fb : Nat} {v : Value} {h k tl lv sn : Int} (hB : BB w b fb h k tl v lv sn) (y : Int) : BB (w.setCell ⟨b, 5, none⟩ (.int .i64 y)) b fb h k tl v y sn := by
  have z := blk_set hB 5 (.int .i64 y)
  simpa [BB, BBv] using z
theorem BB.set6 {w : World} {b fb : Nat} {v : Value} {h k tl lv sn : Int} (hB : BB w b fb h k tl v lv sn) (y : Int) : BB (w.setCell ⟨b, 6, none⟩ (.int .u64 y)) b fb h k tl v lv y := by
  have z := blk_set hB 6 (.int .u64 y)
  simpa [BB, BBv] using z
def phB (s : Bm) (b : Nat) : Value := if s.d = true then .nilFunc else match s.nx with
  | 0 => ffV 46 b
  | 1 => ffV 95 b
  | 2 => ffV 111 b
  | _ => ffV 110 b
set_option maxHeartbeats 2000000 in
theorem banew_any (b : Nat) (pv : Value) (h k tl : Int) (v : Value) (lv sn : Int) (w : World) (hB : BBv w b pv h k tl v lv sn) :
    Calls Tryz.prog 21 #[.pointer (some ⟨b, 0, none⟩)] w fun e w' => ∃ fb, e = .returned (.tuple #[]) ∧ w.heap.size ≤ fb ∧ BB w' b fb h k tl (ffV 46 b) lv sn ∧ FB w' fb (ffV 73 fb) k 0 0 0 0 0 none 0 0 ∧ Kept [b] w w' := by
  have q0 := cell_of_blk hB (i := 0) rfl
  have q2 := cell_of_blk hB (i := 2) rfl
  have HB := hidOf hB
  clear hB
  go_enter Tryz.func21, Tryz.ntmps21
  go_wp2_with fail
  refine (fnew_any k _).mono ?_
  rintro e w1 ⟨fb, rfl, hfb, F, K⟩
  have Z : BBv w1 b pv h k tl v lv sn := K.blk HB.out (by simp)
  have z0 := cell_of_blk Z (i := 0) rfl
  have z4 := cell_of_blk Z (i := 4) rfl
  have zf := free_of_blk Z
  have zl := lt_of_blk Z
  have HX := hidOf (And.intro Z (And.intro F (And.intro hfb K)))
  clear Z F hfb K q0 q2
  go_wp2
  go_end0
  obtain ⟨Z, F, hfb, K⟩ := HX.out
  have ks := ((Kept.refl [b] w1).setCell (p := ⟨b, 0, none⟩) (Or.inl (by simp)) (.pointer (some ⟨fb, 0, none⟩))).setCell (p := ⟨b, 4, none⟩) (Or.inl (by simp)) (ffV 46 b)
  have hne : ¬ fb = b := by have := lt_of_blk HB.out; omega
  exact ⟨fb, rfl, hfb, Z.set0.set4 _, F.kept ks (by simp [hne]), (K.weaken (m := [b]) (by simp)).then ks (by simp)⟩
set_option maxHeartbeats 2000000 in
theorem bnew_any (h k tl : Int) (w : World) :
    Calls Tryz.prog 5 #[.int .u64 h, .int .u64 k, .int .i64 tl] w fun e w' => ∃ b fb, e = .returned (.pointer (some ⟨b, 0, none⟩)) ∧ w.heap.size ≤ b ∧ w.heap.size ≤ fb ∧ BB w' b fb h k tl (if tl < 2 then .nilFunc else ffV 46 b) 1 0 ∧ FB w' fb (ffV 73 fb) k 0 0 0 0 0 none 0 0 ∧ Kept [] w w' := by
  obtain ⟨b, hb⟩ : ∃ b, b = w.heap.size := ⟨_, rfl⟩
  have BX : Hid (BBv (w.alloc (.cells #[.pointer none, .int .u64 h, .int .u64 k, .int .i64 tl, .nilFunc, .int .i64 1, .int .u64 0] 72)) b (.pointer none) h k tl .nilFunc 1 0 ∧ Kept [] w (w.alloc (.cells #[.pointer none, .int .u64 h, .int .u64 k, .int .i64 tl, .nilFunc, .int .i64 1, .int .u64 0] 72))) := hidOf (by rw [hb]; exact ⟨blk_alloc_new w _, (Kept.refl [] w).alloc _⟩)
  by_cases ht : tl < 2
  · simp only [if_pos ht]
    have ht1 : tl ≤ 1 := by omega
    clear ht
    go_enter Tryz.func5, Tryz.ntmps5
    go_upto_region 2 with (fail)
    rw [← hb]
    refine gen_world (fun W => BBv W b (.pointer none) h k tl .nilFunc 1 0 ∧ Kept [] w W) BX.out ?_
    have hbw : w.heap.size ≤ b := by omega
    clear BX hb
    rintro W ⟨Z, K0⟩
    have HX := hidOf (And.intro Z K0)
    clear Z K0
    go_wp2_with fail
    refine (banew_any b _ _ _ _ _ _ _ _ HX.out.1).mono ?_
    rintro e w1 ⟨fb, rfl, hfb, B1, F, K1⟩
    have z4 := cell_of_blk B1 (i := 4) rfl
    have zf := free_of_blk B1
    have zl := lt_of_blk B1
    have HY := hidOf (And.intro B1 (And.intro F (And.intro (show W.heap.size ≤ fb ∧ b < W.heap.size from ⟨hfb, lt_of_blk HX.out.1⟩) (And.intro (HX.out.2.then K1 (by simp; omega)) HX.out.2.size))))
    clear B1 F hfb K1 HX
    go_wp2
    go_ret
    obtain ⟨B1, F, hfb, K1, sz⟩ := HY.out
    have ks := (Kept.refl [b] w1).setCell (p := ⟨b, 4, none⟩) (Or.inl (by simp)) .nilFunc
    exact ⟨b, fb, rfl, hbw, by omega, B1.set4 _, F.kept ks (by simp; omega), K1.then ks (by simp; omega)⟩
  · simp only [if_neg ht]
    have ht1 : ¬ tl ≤ 1 := by omega
    clear ht
    go_enter Tryz.func5, Tryz.ntmps5
    go_upto_region 2 with (fail)
    rw [← hb]
    refine gen_world (fun W => BBv W b (.pointer none) h k tl .nilFunc 1 0 ∧ Kept [] w W) BX.out ?_
    have hbw : w.heap.size ≤ b := by omega
    clear BX hb
    rintro W ⟨Z, K0⟩
    have HX := hidOf (And.intro Z K0)
    clear Z K0
    go_wp2_with fail
    refine (banew_any b _ _ _ _ _ _ _ _ HX.out.1).mono ?_
    rintro e w1 ⟨fb, rfl, hfb, B1, F, K1⟩
    have z4 := cell_of_blk B1 (i := 4) rfl
    have zf := free_of_blk B1
    have zl := lt_of_blk B1
    have HY := hidOf (And.intro B1 (And.intro F (And.intro (show W.heap.size ≤ fb ∧ b < W.heap.size from ⟨hfb, lt_of_blk HX.out.1⟩) (And.intro (HX.out.2.then K1 (by simp; omega)) HX.out.2.size))))
    clear B1 F hfb K1 HX
    go_wp2
    go_ret
    obtain ⟨B1, F, hfb, K1, sz⟩ := HY.out
    exact ⟨b, fb, rfl, hbw, by omega, B1, F, K1⟩
set_option maxHeartbeats 2000000 in
theorem bdone_any (b fb : Nat) (s : Bm) (w : World) (hB : BB w b fb s.h s.k s.tl (phB s b) s.lv s.w) :
    Calls Tryz.prog 9 #[.pointer (some ⟨b, 0, none⟩)] w fun e w' => e = .returned (.bool s.d) ∧ w' = w := by
  have E1 := f_eqfun
  have E2 := f_eqnil
  have q4 := cell_of_blk hB (i := 4) rfl
  clear hB
  cases hd : s.d with
  | true =>
    have e : phB s b = .nilFunc := if_pos hd
    rw [e] at q4
    clear e hd
    go_enter Tryz.func9, Tryz.ntmps9
    go_wp2
    go_ret
    exact ⟨rfl, rfl⟩
  | false =>
    have e : ∃ F, phB s b = ffV F b := by
      unfold phB; rw [if_neg (by rw [hd]; decide)]
      split <;> exact ⟨_, rfl⟩
    obtain ⟨F, e⟩ := e
    rw [e] at q4
    unfold ffV at q4
    clear e hd
    go_enter Tryz.func9, Tryz.ntmps9
    go_wp2
    go_ret
    exact ⟨rfl, rfl⟩
set_option maxHeartbeats 2000000 in
theorem blevel_any (b fb : Nat) (h k tl : Int) (v : Value) (lv sn : Int) (w : World) (hB : BB w b fb h k tl v lv sn) :
    Calls Tryz.prog 14 #[.pointer (some ⟨b, 0, none⟩)] w fun e w' => e = .returned (.int .i64 lv) ∧ w' = w := by
  have q5 := cell_of_blk hB (i := 5) rfl
  go_enter Tryz.func14, Tryz.ntmps14
  go_wp2
  go_ret
  exact ⟨rfl, rfl⟩
set_option maxHeartbeats 2000000 in
theorem bnext_any (b fb : Nat) (h k tl : Int) (v : Value) (lv sn : Int) (w : World) (hB : BB w b fb h k tl v lv sn) (l0 : 0 ≤ lv) (l1 : lv ≤ 100) :
    Calls Tryz.prog 109 #[.pointer (some ⟨b, 0, none⟩)] w fun e w' => e = .returned (.int .i64 (6 + lv)) ∧ w' = w := by
  have q5 := cell_of_blk hB (i := 5) rfl
  go_enter Tryz.func109, Tryz.ntmps109
  go_wp2
  go_ret
  exact ⟨ret_i64 (by go_num), rfl⟩
set_option maxHeartbeats 4000000 in
theorem breplaced_any (base : Nat → Prop) (b fb : Nat) (c : Cfg) (f : Fm) (h k tl : Int) (v : Value) (lv sn : Int) (w : World) (hB : BB w b fb h k tl v lv sn) (S : Sf base w fb c f) :
    Calls Tryz.prog 94 #[.pointer (some ⟨b, 0, none⟩)] w fun e w' => e = .returned (.bool (decide (enV f.d f.ss lv ≠ 0 ∧ enV f.d f.ks lv = k))) ∧ Kept [] w w' := by
  have SU1 := hidOf (fun (W : World) (kk : Kept [] w W) => (tsucc_any (S.new kk) lv).mono fun _ _ hh => And.intro hh.1 (kk.trans hh.2))
  have KE1 := hidOf (fun (W : World) (kk : Kept [] w W) => (tkey_any (S.new kk) lv).mono fun _ _ hh => And.intro hh.1 (kk.trans hh.2))
  have HS0 : Hid (∀ W' : World, Kept [] w W' → W'.cell? ⟨b, 0, none⟩ = some (.pointer (some ⟨fb, 0, none⟩)) ∧ W'.cell? ⟨b, 5, none⟩ = some (.int .i64 lv) ∧ W'.cell? ⟨b, 2, none⟩ = some (.int .u64 k)) := hidOf (by
    intro W' kk
    have z := hB.kept kk (by simp)
    exact ⟨cell_of_blk z (i := 0) rfl, cell_of_blk z (i := 5) rfl, cell_of_blk z (i := 2) rfl⟩)
  generalize enV f.d f.ss lv = SU at SU1 ⊢
  generalize enV f.d f.ks lv = KE at KE1 ⊢
  clear hB S
  by_cases h0 : SU = 0
  · have e : decide (SU ≠ 0 ∧ KE = k) = false := decide_eq_false (fun z => z.1 h0)
    rw [e]; clear e KE1
    subst h0
    go_enter Tryz.func94, Tryz.ntmps94
    go_wp2_with fail
    refine wp_region_held_drew (S := fun w' => Kept [] w w') (by kernel_rfl) (Kept.refl [] w).drew (fun hS => ?_)
    refine wpAnyH_take (i := 0) (oi := { dst := some 3, op := Op.move (Operand.tmp 0), type := 38, pos := "build.go:74", after := #[], guard := none }) (v := .pointer (some ⟨b, 0, none⟩)) rfl (by kernel_rfl) (by kernel_rfl) (by kernel_rfl) (fun _ _ _ h => h) (Or.inl ⟨by rfl, fun w hSw => by obtain ⟨q0, q1, q2⟩ := HS0.out _ hSw; go_simp⟩) hS ?_
    try simp only [Act.put, List.setIfInBounds_toArray, List.set_cons_zero, List.set_cons_succ]
    refine wpAnyH_take (i := 1) (oi := { dst := some 4, op := Op.nilCheck (Operand.tmp 3), type := 0, pos := "build.go:74", after := #[{ on := 0, ground := Ground.data }], guard := none }) (v := .pointer (some ⟨b, 0, none⟩)) rfl (by kernel_rfl) (by kernel_rfl) (by kernel_rfl) (fun _ _ _ h => h) (Or.inl ⟨by rfl, fun w hSw => by obtain ⟨q0, q1, q2⟩ := HS0.out _ hSw; go_simp⟩) hS ?_
    try simp only [Act.put, List.setIfInBounds_toArray, List.set_cons_zero, List.set_cons_succ]
    refine wpAnyH_take (i := 2) (oi := { dst := some 5, op := Op.fieldAddr 72 (Operand.tmp 4) 0, type := 0, pos := "build.go:74", after := #[{ on := 1, ground := Ground.data }], guard := none }) (v := .pointer (some ⟨b, 0, none⟩)) rfl (by kernel_rfl) (by kernel_rfl) (by kernel_rfl) (fun _ _ _ h => h) (Or.inl ⟨by rfl, fun w hSw => by obtain ⟨q0, q1, q2⟩ := HS0.out _ hSw; go_simp⟩) hS ?_
    try simp only [Act.put, List.setIfInBounds_toArray, List.set_cons_zero, List.set_cons_succ]
    refine wpAnyH_take (i := 3) (oi := { dst := some 6, op := Op.load 70 (Operand.tmp 5), type := 70, pos := "build.go:74", after := #[{ on := 2, ground := Ground.data }], guard := none }) (v := .pointer (some ⟨fb, 0, none⟩)) rfl (by kernel_rfl) (by kernel_rfl) (by kernel_rfl) (fun _ _ _ h => h) (Or.inl ⟨by rfl, fun w hSw => by obtain ⟨q0, q1, q2⟩ := HS0.out _ hSw; go_simp⟩) hS ?_
    try simp only [Act.put, List.setIfInBounds_toArray, List.set_cons_zero, List.set_cons_succ]
    refine wpAnyH_take (i := 4) (oi := { dst := some 7, op := Op.move (Operand.tmp 0), type := 38, pos := "build.go:74", after := #[], guard := none }) (v := .pointer (some ⟨b, 0, none⟩)) rfl (by kernel_rfl) (by kernel_rfl) (by kernel_rfl) (fun _ _ _ h => h) (Or.inl ⟨by rfl, fun w hSw => by obtain ⟨q0, q1, q2⟩ := HS0.out _ hSw; go_simp⟩) hS ?_
    try simp only [Act.put, List.setIfInBounds_toArray, List.set_cons_zero, List.set_cons_succ]
    refine wpAnyH_take (i := 5) (oi := { dst := some 8, op := Op.nilCheck (Operand.tmp 7), type := 0, pos := "build.go:74", after := #[{ on := 4, ground := Ground.data }], guard := none }) (v := .pointer (some ⟨b, 0, none⟩)) rfl (by kernel_rfl) (by kernel_rfl) (by kernel_rfl) (fun _ _ _ h => h) (Or.inl ⟨by rfl, fun w hSw => by obtain ⟨q0, q1, q2⟩ := HS0.out _ hSw; go_simp⟩) hS ?_
    try simp only [Act.put, List.setIfInBounds_toArray, List.set_cons_zero, List.set_cons_succ]
    refine wpAnyH_take (i := 6) (oi := { dst := some 9, op := Op.fieldAddr 72 (Operand.tmp 8) 5, type := 0, pos := "build.go:74", after := #[{ on := 5, ground := Ground.data }], guard := none }) (v := .pointer (some ⟨b, 5, none⟩)) rfl (by kernel_rfl) (by kernel_rfl) (by kernel_rfl) (fun _ _ _ h => h) (Or.inl ⟨by rfl, fun w hSw => by obtain ⟨q0, q1, q2⟩ := HS0.out _ hSw; go_simp⟩) hS ?_
    try simp only [Act.put, List.setIfInBounds_toArray, List.set_cons_zero, List.set_cons_succ]
    refine wpAnyH_take (i := 7) (oi := { dst := some 10, op := Op.load 3 (Operand.tmp 9), type := 3, pos := "build.go:74", after := #[{ on := 6, ground := Ground.data }], guard := none }) (v := .int .i64 lv) rfl (by kernel_rfl) (by kernel_rfl) (by kernel_rfl) (fun _ _ _ h => h) (Or.inl ⟨by rfl, fun w hSw => by obtain ⟨q0, q1, q2⟩ := HS0.out _ hSw; go_simp⟩) hS ?_
    try simp only [Act.put, List.setIfInBounds_toArray, List.set_cons_zero, List.set_cons_succ]
    refine wpAnyH_ready (rs := [8]) (by kernel_rfl) (by simp) ?_
    refine AllReadyH.cons (o := { dst := some 11, op := Op.call { callee := Callee.value (Operand.func 107), args := #[Operand.tmp 6, Operand.tmp 10], argTypes := #[70, 3] }, type := 25, pos := "build.go:74", after := #[{ on := 3, ground := Ground.data }, { on := 7, ground := Ground.data }], guard := none }) rfl (fun K hK => ?_) AllReadyH.nil
    rw [if_pos (by rfl)]
    refine wp_calls 107 #[.pointer (some ⟨fb, 0, none⟩), .int .i64 lv] (by kernel_rfl) (fun v V => v = .int .u64 0 ∧ Kept [] w V) ((SU1.out _ hS).mono fun e w' hh => ⟨_, hh.1, rfl, hh.2⟩) ?_
    rintro _ w9 ⟨rfl, K9⟩
    try simp only [Act.put, List.setIfInBounds_toArray, List.set_cons_zero, List.set_cons_succ]
    refine hK.out _ _ (K9) (fun hS => ?_)
    clear hK K
    refine wpAnyH_take (i := 9) (oi := { dst := some 12, op := Op.binOp BinOp.neq 25 (Operand.tmp 11) (Operand.const (Value.int IntKind.u64 0)) 25, type := 4, pos := "build.go:74", after := #[{ on := 8, ground := Ground.data }], guard := none }) (v := .bool false) rfl (by kernel_rfl) (by kernel_rfl) (by kernel_rfl) (fun _ _ _ h => h) (Or.inl ⟨by rfl, fun w hSw => by obtain ⟨q0, q1, q2⟩ := HS0.out _ hSw; go_simp⟩) hS ?_
    try simp only [Act.put, List.setIfInBounds_toArray, List.set_cons_zero, List.set_cons_succ]
    refine wpAnyH_take (i := 10) (oi := { dst := some 13, op := Op.move (Operand.tmp 12), type := 4, pos := "build.go:74", after := #[{ on := 9, ground := Ground.data }, { on := 8, ground := Ground.chain }], guard := none }) (v := .bool false) rfl (by kernel_rfl) (by kernel_rfl) (by kernel_rfl) (fun _ _ _ h => h) (Or.inl ⟨by rfl, fun w hSw => by obtain ⟨q0, q1, q2⟩ := HS0.out _ hSw; go_simp⟩) hS ?_
    try simp only [Act.put, List.setIfInBounds_toArray, List.set_cons_zero, List.set_cons_succ]
    refine wpAnyH_take (i := 11) (oi := { dst := some 14, op := Op.move (Operand.tmp 0), type := 38, pos := "build.go:74", after := #[{ on := 10, ground := Ground.guard }], guard := some (10, true) }) (v := undef) rfl (by kernel_rfl) (by kernel_rfl) (by kernel_rfl) (fun _ _ _ h => h) (Or.inr ⟨by kernel_rfl, rfl⟩) hS ?_
    try simp only [Act.put, List.setIfInBounds_toArray, List.set_cons_zero, List.set_cons_succ]
    refine wpAnyH_take (i := 12) (oi := { dst := some 15, op := Op.nilCheck (Operand.tmp 14), type := 0, pos := "build.go:74", after := #[{ on := 11, ground := Ground.data }, { on := 10, ground := Ground.guard }], guard := some (10, true) }) (v := undef) rfl (by kernel_rfl) (by kernel_rfl) (by kernel_rfl) (fun _ _ _ h => h) (Or.inr ⟨by kernel_rfl, rfl⟩) hS ?_
    try simp only [Act.put, List.setIfInBounds_toArray, List.set_cons_zero, List.set_cons_succ]
    refine wpAnyH_take (i := 13) (oi := { dst := some 16, op := Op.fieldAddr 72 (Operand.tmp 15) 0, type := 0, pos := "build.go:74", after := #[{ on := 12, ground := Ground.data }, { on := 10, ground := Ground.guard }], guard := some (10, true) }) (v := undef) rfl (by kernel_rfl) (by kernel_rfl) (by kernel_rfl) (fun _ _ _ h => h) (Or.inr ⟨by kernel_rfl, rfl⟩) hS ?_
    try simp only [Act.put, List.setIfInBounds_toArray, List.set_cons_zero, List.set_cons_succ]
    refine wpAnyH_take (i := 14) (oi := { dst := some 17, op := Op.load 70 (Operand.tmp 16), type := 70, pos := "build.go:74", after := #[{ on := 13, ground := Ground.data }, { on := 10, ground := Ground.guard }], guard := some (10, true) }) (v := undef) rfl (by kernel_rfl) (by kernel_rfl) (by kernel_rfl) (fun _ _ _ h => h) (Or.inr ⟨by kernel_rfl, rfl⟩) hS ?_
    try simp only [Act.put, List.setIfInBounds_toArray, List.set_cons_zero, List.set_cons_succ]
    refine wpAnyH_take (i := 15) (oi := { dst := some 18, op := Op.move (Operand.tmp 0), type := 38, pos := "build.go:74", after := #[{ on := 10, ground := Ground.guard }], guard := some (10, true) }) (v := undef) rfl (by kernel_rfl) (by kernel_rfl) (by kernel_rfl) (fun _ _ _ h => h) (Or.inr ⟨by kernel_rfl, rfl⟩) hS ?_
    try simp only [Act.put, List.setIfInBounds_toArray, List.set_cons_zero, List.set_cons_succ]
    refine wpAnyH_take (i := 16) (oi := { dst := some 19, op := Op.nilCheck (Operand.tmp 18), type := 0, pos := "build.go:74", after := #[{ on := 15, ground := Ground.data }, { on := 10, ground := Ground.guard }], guard := some (10, true) }) (v := undef) rfl (by kernel_rfl) (by kernel_rfl) (by kernel_rfl) (fun _ _ _ h => h) (Or.inr ⟨by kernel_rfl, rfl⟩) hS ?_
    try simp only [Act.put, List.setIfInBounds_toArray, List.set_cons_zero, List.set_cons_succ]
    refine wpAnyH_take (i := 17) (oi := { dst := some 20, op := Op.fieldAddr 72 (Operand.tmp 19) 5, type := 0, pos := "build.go:74", after := #[{ on := 16, ground := Ground.data }, { on := 10, ground := Ground.guard }], guard := some (10, true) }) (v := undef) rfl (by kernel_rfl) (by kernel_rfl) (by kernel_rfl) (fun _ _ _ h => h) (Or.inr ⟨by kernel_rfl, rfl⟩) hS ?_
    try simp only [Act.put, List.setIfInBounds_toArray, List.set_cons_zero, List.set_cons_succ]
    refine wpAnyH_take (i := 18) (oi := { dst := some 21, op := Op.load 3 (Operand.tmp 20), type := 3, pos := "build.go:74", after := #[{ on := 17, ground := Ground.data }, { on := 10, ground := Ground.guard }], guard := some (10, true) }) (v := undef) rfl (by kernel_rfl) (by kernel_rfl) (by kernel_rfl) (fun _ _ _ h => h) (Or.inr ⟨by kernel_rfl, rfl⟩) hS ?_
    try simp only [Act.put, List.setIfInBounds_toArray, List.set_cons_zero, List.set_cons_succ]
    refine wpAnyH_take (i := 19) (oi := { dst := some 22, op := Op.call { callee := Callee.value (Operand.func 108), args := #[Operand.tmp 17, Operand.tmp 21], argTypes := #[70, 3] }, type := 25, pos := "build.go:74", after := #[{ on := 14, ground := Ground.data }, { on := 18, ground := Ground.data }, { on := 10, ground := Ground.chain }, { on := 10, ground := Ground.guard }], guard := some (10, true) }) (v := undef) rfl (by kernel_rfl) (by kernel_rfl) (by kernel_rfl) (fun _ _ _ h => h) (Or.inr ⟨by kernel_rfl, rfl⟩) hS ?_
    try simp only [Act.put, List.setIfInBounds_toArray, List.set_cons_zero, List.set_cons_succ]
    refine wpAnyH_take (i := 20) (oi := { dst := some 23, op := Op.move (Operand.tmp 0), type := 38, pos := "build.go:74", after := #[{ on := 10, ground := Ground.guard }], guard := some (10, true) }) (v := undef) rfl (by kernel_rfl) (by kernel_rfl) (by kernel_rfl) (fun _ _ _ h => h) (Or.inr ⟨by kernel_rfl, rfl⟩) hS ?_
    try simp only [Act.put, List.setIfInBounds_toArray, List.set_cons_zero, List.set_cons_succ]
    refine wpAnyH_take (i := 21) (oi := { dst := some 24, op := Op.nilCheck (Operand.tmp 23), type := 0, pos := "build.go:74", after := #[{ on := 20, ground := Ground.data }, { on := 10, ground := Ground.guard }], guard := some (10, true) }) (v := undef) rfl (by kernel_rfl) (by kernel_rfl) (by kernel_rfl) (fun _ _ _ h => h) (Or.inr ⟨by kernel_rfl, rfl⟩) hS ?_
    try simp only [Act.put, List.setIfInBounds_toArray, List.set_cons_zero, List.set_cons_succ]
    refine wpAnyH_take (i := 22) (oi := { dst := some 25, op := Op.fieldAddr 72 (Operand.tmp 24) 2, type := 0, pos := "build.go:74", after := #[{ on := 21, ground := Ground.data }, { on := 10, ground := Ground.guard }], guard := some (10, true) }) (v := undef) rfl (by kernel_rfl) (by kernel_rfl) (by kernel_rfl) (fun _ _ _ h => h) (Or.inr ⟨by kernel_rfl, rfl⟩) hS ?_
    try simp only [Act.put, List.setIfInBounds_toArray, List.set_cons_zero, List.set_cons_succ]
    refine wpAnyH_take (i := 23) (oi := { dst := some 26, op := Op.load 25 (Operand.tmp 25), type := 25, pos := "build.go:74", after := #[{ on := 22, ground := Ground.data }, { on := 10, ground := Ground.guard }], guard := some (10, true) }) (v := undef) rfl (by kernel_rfl) (by kernel_rfl) (by kernel_rfl) (fun _ _ _ h => h) (Or.inr ⟨by kernel_rfl, rfl⟩) hS ?_
    try simp only [Act.put, List.setIfInBounds_toArray, List.set_cons_zero, List.set_cons_succ]
    refine wpAnyH_take (i := 24) (oi := { dst := some 27, op := Op.binOp BinOp.eql 25 (Operand.tmp 22) (Operand.tmp 26) 25, type := 4, pos := "build.go:74", after := #[{ on := 19, ground := Ground.data }, { on := 23, ground := Ground.data }, { on := 10, ground := Ground.guard }], guard := some (10, true) }) (v := undef) rfl (by kernel_rfl) (by kernel_rfl) (by kernel_rfl) (fun _ _ _ h => h) (Or.inr ⟨by kernel_rfl, rfl⟩) hS ?_
    try simp only [Act.put, List.setIfInBounds_toArray, List.set_cons_zero, List.set_cons_succ]
    refine wpAnyH_take (i := 25) (oi := { dst := some 28, op := Op.pick (Operand.tmp 13) (Operand.tmp 27) (Operand.const (Value.bool false)), type := 4, pos := "build.go:74", after := #[{ on := 10, ground := Ground.data }, { on := 24, ground := Ground.data }], guard := none }) (v := .bool false) rfl (by kernel_rfl) (by kernel_rfl) (by kernel_rfl) (fun _ _ _ h => h) (Or.inl ⟨by rfl, fun w hSw => by obtain ⟨q0, q1, q2⟩ := HS0.out _ hSw; go_simp⟩) hS ?_
    try simp only [Act.put, List.setIfInBounds_toArray, List.set_cons_zero, List.set_cons_succ]
    refine wpAnyH_take (i := 26) (oi := { dst := some 2, op := Op.assign (Operand.tmp 28), type := 4, pos := "build.go:74", after := #[{ on := 25, ground := Ground.data }, { on := 19, ground := Ground.chain }, { on := 0, ground := Ground.phase }, { on := 1, ground := Ground.phase }, { on := 2, ground := Ground.phase }, { on := 3, ground := Ground.phase }, { on := 4, ground := Ground.phase }, { on := 5, ground := Ground.phase }, { on := 6, ground := Ground.phase }, { on := 7, ground := Ground.phase }, { on := 8, ground := Ground.phase }, { on := 9, ground := Ground.phase }, { on := 10, ground := Ground.phase }, { on := 11, ground := Ground.phase }, { on := 12, ground := Ground.phase }, { on := 13, ground := Ground.phase }, { on := 14, ground := Ground.phase }, { on := 15, ground := Ground.phase }, { on := 16, ground := Ground.phase }, { on := 17, ground := Ground.phase }, { on := 18, ground := Ground.phase }, { on := 19, ground := Ground.phase }, { on := 20, ground := Ground.phase }, { on := 21, ground := Ground.phase }, { on := 22, ground := Ground.phase }, { on := 23, ground := Ground.phase }, { on := 24, ground := Ground.phase }, { on := 25, ground := Ground.phase }], guard := none }) (v := .bool false) rfl (by kernel_rfl) (by kernel_rfl) (by kernel_rfl) (fun _ _ _ h => h) (Or.inl ⟨by rfl, fun w hSw => by obtain ⟨q0, q1, q2⟩ := HS0.out _ hSw; go_simp⟩) hS ?_
    try simp only [Act.put, List.setIfInBounds_toArray, List.set_cons_zero, List.set_cons_succ]
    refine wpAnyH_done (by kernel_rfl) ?_ _
    clear hS
    go_wp2
    go_ret
    exact ⟨rfl, K9⟩
  · obtain ⟨B, hB⟩ : ∃ B, B = (KE == k) := ⟨_, rfl⟩
    have e : decide (SU ≠ 0 ∧ KE = k) = B := by
      rw [hB]
      by_cases hk : KE = k
      · rw [decide_eq_true ⟨h0, hk⟩]; simp [hk]
      · rw [decide_eq_false (fun z => hk z.2)]; simp [hk]
    have hSU : (SU != 0) = true := by simp [h0]
    rw [e]; clear e h0
    go_enter Tryz.func94, Tryz.ntmps94
    go_wp2_with fail
    refine wp_region_held_drew (S := fun w' => Kept [] w w') (by kernel_rfl) (Kept.refl [] w).drew (fun hS => ?_)
    refine wpAnyH_take (i := 0) (oi := { dst := some 3, op := Op.move (Operand.tmp 0), type := 38, pos := "build.go:74", after := #[], guard := none }) (v := .pointer (some ⟨b, 0, none⟩)) rfl (by kernel_rfl) (by kernel_rfl) (by kernel_rfl) (fun _ _ _ h => h) (Or.inl ⟨by rfl, fun w hSw => by obtain ⟨q0, q1, q2⟩ := HS0.out _ hSw; go_simp⟩) hS ?_
    try simp only [Act.put, List.setIfInBounds_toArray, List.set_cons_zero, List.set_cons_succ]
    refine wpAnyH_take (i := 1) (oi := { dst := some 4, op := Op.nilCheck (Operand.tmp 3), type := 0, pos := "build.go:74", after := #[{ on := 0, ground := Ground.data }], guard := none }) (v := .pointer (some ⟨b, 0, none⟩)) rfl (by kernel_rfl) (by kernel_rfl) (by kernel_rfl) (fun _ _ _ h => h) (Or.inl ⟨by rfl, fun w hSw => by obtain ⟨q0, q1, q2⟩ := HS0.out _ hSw; go_simp⟩) hS ?_
    try simp only [Act.put, List.setIfInBounds_toArray, List.set_cons_zero, List.set_cons_succ]
    refine wpAnyH_take (i := 2) (oi := { dst := some 5, op := Op.fieldAddr 72 (Operand.tmp 4) 0, type := 0, pos := "build.go:74", after := #[{ on := 1, ground := Ground.data }], guard := none }) (v := .pointer (some ⟨b, 0, none⟩)) rfl (by kernel_rfl) (by kernel_rfl) (by kernel_rfl) (fun _ _ _ h => h) (Or.inl ⟨by rfl, fun w hSw => by obtain ⟨q0, q1, q2⟩ := HS0.out _ hSw; go_simp⟩) hS ?_
    try simp only [Act.put, List.setIfInBounds_toArray, List.set_cons_zero, List.set_cons_succ]
    refine wpAnyH_take (i := 3) (oi := { dst := some 6, op := Op.load 70 (Operand.tmp 5), type := 70, pos := "build.go:74", after := #[{ on := 2, ground := Ground.data }], guard := none }) (v := .pointer (some ⟨fb, 0, none⟩)) rfl (by kernel_rfl) (by kernel_rfl) (by kernel_rfl) (fun _ _ _ h => h) (Or.inl ⟨by rfl, fun w hSw => by obtain ⟨q0, q1, q2⟩ := HS0.out _ hSw; go_simp⟩) hS ?_
    try simp only [Act.put, List.setIfInBounds_toArray, List.set_cons_zero, List.set_cons_succ]
    refine wpAnyH_take (i := 4) (oi := { dst := some 7, op := Op.move (Operand.tmp 0), type := 38, pos := "build.go:74", after := #[], guard := none }) (v := .pointer (some ⟨b, 0, none⟩)) rfl (by kernel_rfl) (by kernel_rfl) (by kernel_rfl) (fun _ _ _ h => h) (Or.inl ⟨by rfl, fun w hSw => by obtain ⟨q0, q1, q2⟩ := HS0.out _ hSw; go_simp⟩) hS ?_
    try simp only [Act.put, List.setIfInBounds_toArray, List.set_cons_zero, List.set_cons_succ]
    refine wpAnyH_take (i := 5) (oi := { dst := some 8, op := Op.nilCheck (Operand.tmp 7), type := 0, pos := "build.go:74", after := #[{ on := 4, ground := Ground.data }], guard := none }) (v := .pointer (some ⟨b, 0, none⟩)) rfl (by kernel_rfl) (by kernel_rfl) (by kernel_rfl) (fun _ _ _ h => h) (Or.inl ⟨by rfl, fun w hSw => by obtain ⟨q0, q1, q2⟩ := HS0.out _ hSw; go_simp⟩) hS ?_
    try simp only [Act.put, List.setIfInBounds_toArray, List.set_cons_zero, List.set_cons_succ]
    refine wpAnyH_take (i := 6) (oi := { dst := some 9, op := Op.fieldAddr 72 (Operand.tmp 8) 5, type := 0, pos := "build.go:74", after := #[{ on := 5, ground := Ground.data }], guard := none }) (v := .pointer (some ⟨b, 5, none⟩)) rfl (by kernel_rfl) (by kernel_rfl) (by kernel_rfl) (fun _ _ _ h => h) (Or.inl ⟨by rfl, fun w hSw => by obtain ⟨q0, q1, q2⟩ := HS0.out _ hSw; go_simp⟩) hS ?_
    try simp only [Act.put, List.setIfInBounds_toArray, List.set_cons_zero, List.set_cons_succ]
    refine wpAnyH_take (i := 7) (oi := { dst := some 10, op := Op.load 3 (Operand.tmp 9), type := 3, pos := "build.go:74", after := #[{ on := 6, ground := Ground.data }], guard := none }) (v := .int .i64 lv) rfl (by kernel_rfl) (by kernel_rfl) (by kernel_rfl) (fun _ _ _ h => h) (Or.inl ⟨by rfl, fun w hSw => by obtain ⟨q0, q1, q2⟩ := HS0.out _ hSw; go_simp⟩) hS ?_
    try simp only [Act.put, List.setIfInBounds_toArray, List.set_cons_zero, List.set_cons_succ]
    refine wpAnyH_ready (rs := [8]) (by kernel_rfl) (by simp) ?_
    refine AllReadyH.cons (o := { dst := some 11, op := Op.call { callee := Callee.value (Operand.func 107), args := #[Operand.tmp 6, Operand.tmp 10], argTypes := #[70, 3] }, type := 25, pos := "build.go:74", after := #[{ on := 3, ground := Ground.data }, { on := 7, ground := Ground.data }], guard := none }) rfl (fun K hK => ?_) AllReadyH.nil
    rw [if_pos (by rfl)]
    refine wp_calls 107 #[.pointer (some ⟨fb, 0, none⟩), .int .i64 lv] (by kernel_rfl) (fun v V => v = .int .u64 SU ∧ Kept [] w V) ((SU1.out _ hS).mono fun e w' hh => ⟨_, hh.1, rfl, hh.2⟩) ?_
    rintro _ w9 ⟨rfl, K9⟩
    try simp only [Act.put, List.setIfInBounds_toArray, List.set_cons_zero, List.set_cons_succ]
    refine hK.out _ _ (K9) (fun hS => ?_)
    clear hK K
    refine wpAnyH_take (i := 9) (oi := { dst := some 12, op := Op.binOp BinOp.neq 25 (Operand.tmp 11) (Operand.const (Value.int IntKind.u64 0)) 25, type := 4, pos := "build.go:74", after := #[{ on := 8, ground := Ground.data }], guard := none }) (v := .bool true) rfl (by kernel_rfl) (by kernel_rfl) (by kernel_rfl) (fun _ _ _ h => h) (Or.inl ⟨by rfl, fun w hSw => by obtain ⟨q0, q1, q2⟩ := HS0.out _ hSw; go_simp⟩) hS ?_
    try simp only [Act.put, List.setIfInBounds_toArray, List.set_cons_zero, List.set_cons_succ]
    refine wpAnyH_take (i := 10) (oi := { dst := some 13, op := Op.move (Operand.tmp 12), type := 4, pos := "build.go:74", after := #[{ on := 9, ground := Ground.data }, { on := 8, ground := Ground.chain }], guard := none }) (v := .bool true) rfl (by kernel_rfl) (by kernel_rfl) (by kernel_rfl) (fun _ _ _ h => h) (Or.inl ⟨by rfl, fun w hSw => by obtain ⟨q0, q1, q2⟩ := HS0.out _ hSw; go_simp⟩) hS ?_
    try simp only [Act.put, List.setIfInBounds_toArray, List.set_cons_zero, List.set_cons_succ]
    refine wpAnyH_take (i := 11) (oi := { dst := some 14, op := Op.move (Operand.tmp 0), type := 38, pos := "build.go:74", after := #[{ on := 10, ground := Ground.guard }], guard := some (10, true) }) (v := .pointer (some ⟨b, 0, none⟩)) rfl (by kernel_rfl) (by kernel_rfl) (by kernel_rfl) (fun _ _ _ h => h) (Or.inl ⟨by rfl, fun w hSw => by obtain ⟨q0, q1, q2⟩ := HS0.out _ hSw; go_simp⟩) hS ?_
    try simp only [Act.put, List.setIfInBounds_toArray, List.set_cons_zero, List.set_cons_succ]
    refine wpAnyH_take (i := 12) (oi := { dst := some 15, op := Op.nilCheck (Operand.tmp 14), type := 0, pos := "build.go:74", after := #[{ on := 11, ground := Ground.data }, { on := 10, ground := Ground.guard }], guard := some (10, true) }) (v := .pointer (some ⟨b, 0, none⟩)) rfl (by kernel_rfl) (by kernel_rfl) (by kernel_rfl) (fun _ _ _ h => h) (Or.inl ⟨by rfl, fun w hSw => by obtain ⟨q0, q1, q2⟩ := HS0.out _ hSw; go_simp⟩) hS ?_
    try simp only [Act.put, List.setIfInBounds_toArray, List.set_cons_zero, List.set_cons_succ]
    refine wpAnyH_take (i := 13) (oi := { dst := some 16, op := Op.fieldAddr 72 (Operand.tmp 15) 0, type := 0, pos := "build.go:74", after := #[{ on := 12, ground := Ground.data }, { on := 10, ground := Ground.guard }], guard := some (10, true) }) (v := .pointer (some ⟨b, 0, none⟩)) rfl (by kernel_rfl) (by kernel_rfl) (by kernel_rfl) (fun _ _ _ h => h) (Or.inl ⟨by rfl, fun w hSw => by obtain ⟨q0, q1, q2⟩ := HS0.out _ hSw; go_simp⟩) hS ?_
    try simp only [Act.put, List.setIfInBounds_toArray, List.set_cons_zero, List.set_cons_succ]
    refine wpAnyH_take (i := 14) (oi := { dst := some 17, op := Op.load 70 (Operand.tmp 16), type := 70, pos := "build.go:74", after := #[{ on := 13, ground := Ground.data }, { on := 10, ground := Ground.guard }], guard := some (10, true) }) (v := .pointer (some ⟨fb, 0, none⟩)) rfl (by kernel_rfl) (by kernel_rfl) (by kernel_rfl) (fun _ _ _ h => h) (Or.inl ⟨by rfl, fun w hSw => by obtain ⟨q0, q1, q2⟩ := HS0.out _ hSw; go_simp⟩) hS ?_
    try simp only [Act.put, List.setIfInBounds_toArray, List.set_cons_zero, List.set_cons_succ]
    refine wpAnyH_take (i := 15) (oi := { dst := some 18, op := Op.move (Operand.tmp 0), type := 38, pos := "build.go:74", after := #[{ on := 10, ground := Ground.guard }], guard := some (10, true) }) (v := .pointer (some ⟨b, 0, none⟩)) rfl (by kernel_rfl) (by kernel_rfl) (by kernel_rfl) (fun _ _ _ h => h) (Or.inl ⟨by rfl, fun w hSw => by obtain ⟨q0, q1, q2⟩ := HS0.out _ hSw; go_simp⟩) hS ?_
    try simp only [Act.put, List.setIfInBounds_toArray, List.set_cons_zero, List.set_cons_succ]
    refine wpAnyH_take (i := 16) (oi := { dst := some 19, op := Op.nilCheck (Operand.tmp 18), type := 0, pos := "build.go:74", after := #[{ on := 15, ground := Ground.data }, { on := 10, ground := Ground.guard }], guard := some (10, true) }) (v := .pointer (some ⟨b, 0, none⟩)) rfl (by kernel_rfl) (by kernel_rfl) (by kernel_rfl) (fun _ _ _ h => h) (Or.inl ⟨by rfl, fun w hSw => by obtain ⟨q0, q1, q2⟩ := HS0.out _ hSw; go_simp⟩) hS ?_
    try simp only [Act.put, List.setIfInBounds_toArray, List.set_cons_zero, List.set_cons_succ]
    refine wpAnyH_take (i := 17) (oi := { dst := some 20, op := Op.fieldAddr 72 (Operand.tmp 19) 5, type := 0, pos := "build.go:74", after := #[{ on := 16, ground := Ground.data }, { on := 10, ground := Ground.guard }], guard := some (10, true) }) (v := .pointer (some ⟨b, 5, none⟩)) rfl (by kernel_rfl) (by kernel_rfl) (by kernel_rfl) (fun _ _ _ h => h) (Or.inl ⟨by rfl, fun w hSw => by obtain ⟨q0, q1, q2⟩ := HS0.out _ hSw; go_simp⟩) hS ?_
    try simp only [Act.put, List.setIfInBounds_toArray, List.set_cons_zero, List.set_cons_succ]
    refine wpAnyH_take (i := 18) (oi := { dst := some 21, op := Op.load 3 (Operand.tmp 20), type := 3, pos := "build.go:74", after := #[{ on := 17, ground := Ground.data }, { on := 10, ground := Ground.guard }], guard := some (10, true) }) (v := .int .i64 lv) rfl (by kernel_rfl) (by kernel_rfl) (by kernel_rfl) (fun _ _ _ h => h) (Or.inl ⟨by rfl, fun w hSw => by obtain ⟨q0, q1, q2⟩ := HS0.out _ hSw; go_simp⟩) hS ?_
    try simp only [Act.put, List.setIfInBounds_toArray, List.set_cons_zero, List.set_cons_succ]
    refine wpAnyH_take (i := 20) (oi := { dst := some 23, op := Op.move (Operand.tmp 0), type := 38, pos := "build.go:74", after := #[{ on := 10, ground := Ground.guard }], guard := some (10, true) }) (v := .pointer (some ⟨b, 0, none⟩)) rfl (by kernel_rfl) (by kernel_rfl) (by kernel_rfl) (fun _ _ _ h => h) (Or.inl ⟨by rfl, fun w hSw => by obtain ⟨q0, q1, q2⟩ := HS0.out _ hSw; go_simp⟩) hS ?_
    try simp only [Act.put, List.setIfInBounds_toArray, List.set_cons_zero, List.set_cons_succ]
    refine wpAnyH_take (i := 21) (oi := { dst := some 24, op := Op.nilCheck (Operand.tmp 23), type := 0, pos := "build.go:74", after := #[{ on := 20, ground := Ground.data }, { on := 10, ground := Ground.guard }], guard := some (10, true) }) (v := .pointer (some ⟨b, 0, none⟩)) rfl (by kernel_rfl) (by kernel_rfl) (by kernel_rfl) (fun _ _ _ h => h) (Or.inl ⟨by rfl, fun w hSw => by obtain ⟨q0, q1, q2⟩ := HS0.out _ hSw; go_simp⟩) hS ?_
    try simp only [Act.put, List.setIfInBounds_toArray, List.set_cons_zero, List.set_cons_succ]
    refine wpAnyH_take (i := 22) (oi := { dst := some 25, op := Op.fieldAddr 72 (Operand.tmp 24) 2, type := 0, pos := "build.go:74", after := #[{ on := 21, ground := Ground.data }, { on := 10, ground := Ground.guard }], guard := some (10, true) }) (v := .pointer (some ⟨b, 2, none⟩)) rfl (by kernel_rfl) (by kernel_rfl) (by kernel_rfl) (fun _ _ _ h => h) (Or.inl ⟨by rfl, fun w hSw => by obtain ⟨q0, q1, q2⟩ := HS0.out _ hSw; go_simp⟩) hS ?_
    try simp only [Act.put, List.setIfInBounds_toArray, List.set_cons_zero, List.set_cons_succ]
    refine wpAnyH_take (i := 23) (oi := { dst := some 26, op := Op.load 25 (Operand.tmp 25), type := 25, pos := "build.go:74", after := #[{ on := 22, ground := Ground.data }, { on := 10, ground := Ground.guard }], guard := some (10, true) }) (v := .int .u64 k) rfl (by kernel_rfl) (by kernel_rfl) (by kernel_rfl) (fun _ _ _ h => h) (Or.inl ⟨by rfl, fun w hSw => by obtain ⟨q0, q1, q2⟩ := HS0.out _ hSw; go_simp⟩) hS ?_
    try simp only [Act.put, List.setIfInBounds_toArray, List.set_cons_zero, List.set_cons_succ]
    refine wpAnyH_ready (rs := [19]) (by kernel_rfl) (by simp) ?_
    refine AllReadyH.cons (o := { dst := some 22, op := Op.call { callee := Callee.value (Operand.func 108), args := #[Operand.tmp 17, Operand.tmp 21], argTypes := #[70, 3] }, type := 25, pos := "build.go:74", after := #[{ on := 14, ground := Ground.data }, { on := 18, ground := Ground.data }, { on := 10, ground := Ground.chain }, { on := 10, ground := Ground.guard }], guard := some (10, true) }) rfl (fun K hK => ?_) AllReadyH.nil
    rw [if_pos (by rfl)]
    refine wp_calls 108 #[.pointer (some ⟨fb, 0, none⟩), .int .i64 lv] (by kernel_rfl) (fun v V => v = .int .u64 KE ∧ Kept [] w V) ((KE1.out _ hS).mono fun e w' hh => ⟨_, hh.1, rfl, hh.2⟩) ?_
    rintro _ w10 ⟨rfl, K10⟩
    try simp only [Act.put, List.setIfInBounds_toArray, List.set_cons_zero, List.set_cons_succ]
    refine hK.out _ _ (K10) (fun hS => ?_)
    clear hK K
    refine wpAnyH_take (i := 24) (oi := { dst := some 27, op := Op.binOp BinOp.eql 25 (Operand.tmp 22) (Operand.tmp 26) 25, type := 4, pos := "build.go:74", after := #[{ on := 19, ground := Ground.data }, { on := 23, ground := Ground.data }, { on := 10, ground := Ground.guard }], guard := some (10, true) }) (v := .bool B) rfl (by kernel_rfl) (by kernel_rfl) (by kernel_rfl) (fun _ _ _ h => h) (Or.inl ⟨by rfl, fun w hSw => by obtain ⟨q0, q1, q2⟩ := HS0.out _ hSw; go_simp⟩) hS ?_
    try simp only [Act.put, List.setIfInBounds_toArray, List.set_cons_zero, List.set_cons_succ]
    refine wpAnyH_take (i := 25) (oi := { dst := some 28, op := Op.pick (Operand.tmp 13) (Operand.tmp 27) (Operand.const (Value.bool false)), type := 4, pos := "build.go:74", after := #[{ on := 10, ground := Ground.data }, { on := 24, ground := Ground.data }], guard := none }) (v := .bool B) rfl (by kernel_rfl) (by kernel_rfl) (by kernel_rfl) (fun _ _ _ h => h) (Or.inl ⟨by rfl, fun w hSw => by obtain ⟨q0, q1, q2⟩ := HS0.out _ hSw; go_simp⟩) hS ?_
    try simp only [Act.put, List.setIfInBounds_toArray, List.set_cons_zero, List.set_cons_succ]
    refine wpAnyH_take (i := 26) (oi := { dst := some 2, op := Op.assign (Operand.tmp 28), type := 4, pos := "build.go:74", after := #[{ on := 25, ground := Ground.data }, { on := 19, ground := Ground.chain }, { on := 0, ground := Ground.phase }, { on := 1, ground := Ground.phase }, { on := 2, ground := Ground.phase }, { on := 3, ground := Ground.phase }, { on := 4, ground := Ground.phase }, { on := 5, ground := Ground.phase }, { on := 6, ground := Ground.phase }, { on := 7, ground := Ground.phase }, { on := 8, ground := Ground.phase }, { on := 9, ground := Ground.phase }, { on := 10, ground := Ground.phase }, { on := 11, ground := Ground.phase }, { on := 12, ground := Ground.phase }, { on := 13, ground := Ground.phase }, { on := 14, ground := Ground.phase }, { on := 15, ground := Ground.phase }, { on := 16, ground := Ground.phase }, { on := 17, ground := Ground.phase }, { on := 18, ground := Ground.phase }, { on := 19, ground := Ground.phase }, { on := 20, ground := Ground.phase }, { on := 21, ground := Ground.phase }, { on := 22, ground := Ground.phase }, { on := 23, ground := Ground.phase }, { on := 24, ground := Ground.phase }, { on := 25, ground := Ground.phase }], guard := none }) (v := .bool B) rfl (by kernel_rfl) (by kernel_rfl) (by kernel_rfl) (fun _ _ _ h => h) (Or.inl ⟨by rfl, fun w hSw => by obtain ⟨q0, q1, q2⟩ := HS0.out _ hSw; go_simp⟩) hS ?_
    try simp only [Act.put, List.setIfInBounds_toArray, List.set_cons_zero, List.set_cons_succ]
    refine wpAnyH_done (by kernel_rfl) ?_ _
    clear hS
    go_wp2
    go_ret
    exact ⟨rfl, K10⟩
set_option maxHeartbeats 4000000 in
theorem blook_any (base : Nat → Prop) (b fb m p r : Nat) (c : Cfg) (f : Fm) (h k tl : Int) (v : Value) (lv sn : Int) (cs : List Int) (cnt : Int) (a : Acc) (w : World) (hB : BB w b fb h k tl v lv sn) (S : Sf base w fb c f) (hM : Mm w m p r c cs cnt a) (hl : lv ≤ tl) :
    Calls Tryz.prog 76 #[.pointer (some ⟨b, 0, none⟩), .pointer (some ⟨m, 0, none⟩)] w fun e w' => e = .returned (.tuple #[]) ∧ BB w' b fb h k tl (if decide (tl ≤ lv ∨ c.h ≤ lv ∨ (enV f.d f.ss lv ≠ 0 ∧ enV f.d f.ks lv = k)) = true then .nilFunc else ffV 95 b) lv sn ∧ Kept [b] w w' := by
  have RP := hidOf (fun (W : World) (kk : Kept [] w W) => (breplaced_any base b fb c f h k tl v lv sn W (hB.kept kk (by simp)) (S.new kk)).mono fun _ _ hh => And.intro hh.1 (kk.trans hh.2))
  have CF := hidOf (fun (W : World) (kk : Kept [] w W) => (config_any c W).mono fun _ _ hh => And.intro hh.1 (kk.trans hh.2))
  have F3 : ∀ W : World, (Instr.field 23 (.agg #[.int .i64 c.t, .int .i64 c.s, .int .i64 c.c, .int .i64 c.h, .int .i64 c.k, .int .i64 c.e, .int .i64 c.l]) 3).run Tryz.prog W = .ok (.int .i64 c.h) W := fldheight c
  have HS0 : Hid (∀ W' : World, Kept [] w W' → W'.cell? ⟨b, 5, none⟩ = some (.int .i64 lv) ∧ W'.cell? ⟨b, 3, none⟩ = some (.int .i64 tl) ∧ True ∧ W'.cell? ⟨m, 0, none⟩ = some (.int .i64 c.t) ∧ W'.cell? ⟨m, 1, none⟩ = some (.int .i64 c.s) ∧ W'.cell? ⟨m, 2, none⟩ = some (.int .i64 c.c) ∧ W'.cell? ⟨m, 3, none⟩ = some (.int .i64 c.h) ∧ W'.cell? ⟨m, 4, none⟩ = some (.int .i64 c.k) ∧ W'.cell? ⟨m, 5, none⟩ = some (.int .i64 c.e) ∧ W'.cell? ⟨m, 6, none⟩ = some (.int .i64 c.l)) := hidOf (by
    intro W' kk
    have y := hB.kept kk (by simp)
    have z := kk.blk hM.st (by simp)
    exact ⟨cell_of_blk y (i := 5) rfl, cell_of_blk y (i := 3) rfl, trivial, cell_of_blk z (i := 0) rfl, cell_of_blk z (i := 1) rfl, cell_of_blk z (i := 2) rfl, cell_of_blk z (i := 3) rfl, cell_of_blk z (i := 4) rfl, cell_of_blk z (i := 5) rfl, cell_of_blk z (i := 6) rfl⟩)
  have HB := hidOf hB
  obtain ⟨B, hBB⟩ : ∃ B, decide (enV f.d f.ss lv ≠ 0 ∧ enV f.d f.ks lv = k) = B := ⟨_, rfl⟩
  rw [hBB] at RP
  clear hB S hM
  by_cases h1 : lv = tl
  · have e : decide (tl ≤ lv ∨ c.h ≤ lv ∨ (enV f.d f.ss lv ≠ 0 ∧ enV f.d f.ks lv = k)) = true := decide_eq_true (Or.inl (by omega))
    rw [e]
    obtain ⟨QV, hQV⟩ : ∃ QV, QV = (if true = true then Value.nilFunc else ffV 95 b) := ⟨_, rfl⟩
    rw [← hQV]
    have HE := hidOf hQV
    clear hQV
    have h1b : (lv == tl) = true := by simp [h1]
    clear e hBB h1 hl RP CF F3
    go_enter Tryz.func76, Tryz.ntmps76
    go_wp2_with fail
    refine wp_region_held_drew (S := fun w' => Kept [] w w') (by kernel_rfl) (Kept.refl [] w).drew (fun hS => ?_)
    refine wpAnyH_take (i := 0) (oi := { dst := some 4, op := Op.move (Operand.tmp 0), type := 38, pos := "build.go:65", after := #[], guard := none }) (v := .pointer (some ⟨b, 0, none⟩)) rfl (by kernel_rfl) (by kernel_rfl) (by kernel_rfl) (fun _ _ _ h => h) (Or.inl ⟨by rfl, fun w hSw => by obtain ⟨q0, q1, q2, q3, q4, q5, q6, q7, q8, q9⟩ := HS0.out _ hSw; go_simp⟩) hS ?_
    try simp only [Act.put, List.setIfInBounds_toArray, List.set_cons_zero, List.set_cons_succ]
    refine wpAnyH_take (i := 1) (oi := { dst := some 5, op := Op.nilCheck (Operand.tmp 4), type := 0, pos := "build.go:65", after := #[{ on := 0, ground := Ground.data }], guard := none }) (v := .pointer (some ⟨b, 0, none⟩)) rfl (by kernel_rfl) (by kernel_rfl) (by kernel_rfl) (fun _ _ _ h => h) (Or.inl ⟨by rfl, fun w hSw => by obtain ⟨q0, q1, q2, q3, q4, q5, q6, q7, q8, q9⟩ := HS0.out _ hSw; go_simp⟩) hS ?_
    try simp only [Act.put, List.setIfInBounds_toArray, List.set_cons_zero, List.set_cons_succ]
    refine wpAnyH_take (i := 2) (oi := { dst := some 6, op := Op.fieldAddr 72 (Operand.tmp 5) 5, type := 0, pos := "build.go:65", after := #[{ on := 1, ground := Ground.data }], guard := none }) (v := .pointer (some ⟨b, 5, none⟩)) rfl (by kernel_rfl) (by kernel_rfl) (by kernel_rfl) (fun _ _ _ h => h) (Or.inl ⟨by rfl, fun w hSw => by obtain ⟨q0, q1, q2, q3, q4, q5, q6, q7, q8, q9⟩ := HS0.out _ hSw; go_simp⟩) hS ?_
    try simp only [Act.put, List.setIfInBounds_toArray, List.set_cons_zero, List.set_cons_succ]
    refine wpAnyH_take (i := 3) (oi := { dst := some 7, op := Op.load 3 (Operand.tmp 6), type := 3, pos := "build.go:65", after := #[{ on := 2, ground := Ground.data }], guard := none }) (v := .int .i64 lv) rfl (by kernel_rfl) (by kernel_rfl) (by kernel_rfl) (fun _ _ _ h => h) (Or.inl ⟨by rfl, fun w hSw => by obtain ⟨q0, q1, q2, q3, q4, q5, q6, q7, q8, q9⟩ := HS0.out _ hSw; go_simp⟩) hS ?_
    try simp only [Act.put, List.setIfInBounds_toArray, List.set_cons_zero, List.set_cons_succ]
    refine wpAnyH_take (i := 4) (oi := { dst := some 8, op := Op.move (Operand.tmp 0), type := 38, pos := "build.go:65", after := #[], guard := none }) (v := .pointer (some ⟨b, 0, none⟩)) rfl (by kernel_rfl) (by kernel_rfl) (by kernel_rfl) (fun _ _ _ h => h) (Or.inl ⟨by rfl, fun w hSw => by obtain ⟨q0, q1, q2, q3, q4, q5, q6, q7, q8, q9⟩ := HS0.out _ hSw; go_simp⟩) hS ?_
    try simp only [Act.put, List.setIfInBounds_toArray, List.set_cons_zero, List.set_cons_succ]
    refine wpAnyH_take (i := 5) (oi := { dst := some 9, op := Op.nilCheck (Operand.tmp 8), type := 0, pos := "build.go:65", after := #[{ on := 4, ground := Ground.data }], guard := none }) (v := .pointer (some ⟨b, 0, none⟩)) rfl (by kernel_rfl) (by kernel_rfl) (by kernel_rfl) (fun _ _ _ h => h) (Or.inl ⟨by rfl, fun w hSw => by obtain ⟨q0, q1, q2, q3, q4, q5, q6, q7, q8, q9⟩ := HS0.out _ hSw; go_simp⟩) hS ?_
    try simp only [Act.put, List.setIfInBounds_toArray, List.set_cons_zero, List.set_cons_succ]
    refine wpAnyH_take (i := 6) (oi := { dst := some 10, op := Op.fieldAddr 72 (Operand.tmp 9) 3, type := 0, pos := "build.go:65", after := #[{ on := 5, ground := Ground.data }], guard := none }) (v := .pointer (some ⟨b, 3, none⟩)) rfl (by kernel_rfl) (by kernel_rfl) (by kernel_rfl) (fun _ _ _ h => h) (Or.inl ⟨by rfl, fun w hSw => by obtain ⟨q0, q1, q2, q3, q4, q5, q6, q7, q8, q9⟩ := HS0.out _ hSw; go_simp⟩) hS ?_
    try simp only [Act.put, List.setIfInBounds_toArray, List.set_cons_zero, List.set_cons_succ]
    refine wpAnyH_take (i := 7) (oi := { dst := some 11, op := Op.load 3 (Operand.tmp 10), type := 3, pos := "build.go:65", after := #[{ on := 6, ground := Ground.data }], guard := none }) (v := .int .i64 tl) rfl (by kernel_rfl) (by kernel_rfl) (by kernel_rfl) (fun _ _ _ h => h) (Or.inl ⟨by rfl, fun w hSw => by obtain ⟨q0, q1, q2, q3, q4, q5, q6, q7, q8, q9⟩ := HS0.out _ hSw; go_simp⟩) hS ?_
    try simp only [Act.put, List.setIfInBounds_toArray, List.set_cons_zero, List.set_cons_succ]
    refine wpAnyH_take (i := 8) (oi := { dst := some 12, op := Op.binOp BinOp.eql 3 (Operand.tmp 7) (Operand.tmp 11) 3, type := 4, pos := "build.go:65", after := #[{ on := 3, ground := Ground.data }, { on := 7, ground := Ground.data }], guard := none }) (v := .bool true) rfl (by kernel_rfl) (by kernel_rfl) (by kernel_rfl) (fun _ _ _ h => h) (Or.inl ⟨by rfl, fun w hSw => by obtain ⟨q0, q1, q2, q3, q4, q5, q6, q7, q8, q9⟩ := HS0.out _ hSw; go_simp⟩) hS ?_
    try simp only [Act.put, List.setIfInBounds_toArray, List.set_cons_zero, List.set_cons_succ]
    refine wpAnyH_take (i := 9) (oi := { dst := some 13, op := Op.move (Operand.tmp 12), type := 4, pos := "build.go:65", after := #[{ on := 8, ground := Ground.data }], guard := none }) (v := .bool true) rfl (by kernel_rfl) (by kernel_rfl) (by kernel_rfl) (fun _ _ _ h => h) (Or.inl ⟨by rfl, fun w hSw => by obtain ⟨q0, q1, q2, q3, q4, q5, q6, q7, q8, q9⟩ := HS0.out _ hSw; go_simp⟩) hS ?_
    try simp only [Act.put, List.setIfInBounds_toArray, List.set_cons_zero, List.set_cons_succ]
    refine wpAnyH_take (i := 10) (oi := { dst := some 14, op := Op.move (Operand.tmp 0), type := 38, pos := "build.go:65", after := #[{ on := 9, ground := Ground.guard }], guard := some (9, false) }) (v := undef) rfl (by kernel_rfl) (by kernel_rfl) (by kernel_rfl) (fun _ _ _ h => h) (Or.inr ⟨by kernel_rfl, rfl⟩) hS ?_
    try simp only [Act.put, List.setIfInBounds_toArray, List.set_cons_zero, List.set_cons_succ]
    refine wpAnyH_take (i := 11) (oi := { dst := some 15, op := Op.nilCheck (Operand.tmp 14), type := 0, pos := "build.go:65", after := #[{ on := 10, ground := Ground.data }, { on := 9, ground := Ground.guard }], guard := some (9, false) }) (v := undef) rfl (by kernel_rfl) (by kernel_rfl) (by kernel_rfl) (fun _ _ _ h => h) (Or.inr ⟨by kernel_rfl, rfl⟩) hS ?_
    try simp only [Act.put, List.setIfInBounds_toArray, List.set_cons_zero, List.set_cons_succ]
    refine wpAnyH_take (i := 12) (oi := { dst := some 16, op := Op.fieldAddr 72 (Operand.tmp 15) 5, type := 0, pos := "build.go:65", after := #[{ on := 11, ground := Ground.data }, { on := 9, ground := Ground.guard }], guard := some (9, false) }) (v := undef) rfl (by kernel_rfl) (by kernel_rfl) (by kernel_rfl) (fun _ _ _ h => h) (Or.inr ⟨by kernel_rfl, rfl⟩) hS ?_
    try simp only [Act.put, List.setIfInBounds_toArray, List.set_cons_zero, List.set_cons_succ]
    refine wpAnyH_take (i := 13) (oi := { dst := some 17, op := Op.load 3 (Operand.tmp 16), type := 3, pos := "build.go:65", after := #[{ on := 12, ground := Ground.data }, { on := 9, ground := Ground.guard }], guard := some (9, false) }) (v := undef) rfl (by kernel_rfl) (by kernel_rfl) (by kernel_rfl) (fun _ _ _ h => h) (Or.inr ⟨by kernel_rfl, rfl⟩) hS ?_
    try simp only [Act.put, List.setIfInBounds_toArray, List.set_cons_zero, List.set_cons_succ]
    refine wpAnyH_take (i := 14) (oi := { dst := some 18, op := Op.move (Operand.tmp 1), type := 29, pos := "build.go:65", after := #[{ on := 9, ground := Ground.guard }], guard := some (9, false) }) (v := undef) rfl (by kernel_rfl) (by kernel_rfl) (by kernel_rfl) (fun _ _ _ h => h) (Or.inr ⟨by kernel_rfl, rfl⟩) hS ?_
    try simp only [Act.put, List.setIfInBounds_toArray, List.set_cons_zero, List.set_cons_succ]
    refine wpAnyH_take (i := 15) (oi := { dst := some 19, op := Op.nilCheck (Operand.tmp 18), type := 0, pos := "build.go:65", after := #[{ on := 14, ground := Ground.data }, { on := 9, ground := Ground.guard }], guard := some (9, false) }) (v := undef) rfl (by kernel_rfl) (by kernel_rfl) (by kernel_rfl) (fun _ _ _ h => h) (Or.inr ⟨by kernel_rfl, rfl⟩) hS ?_
    try simp only [Act.put, List.setIfInBounds_toArray, List.set_cons_zero, List.set_cons_succ]
    refine wpAnyH_take (i := 16) (oi := { dst := some 20, op := Op.fieldAddr 104 (Operand.tmp 19) 0, type := 0, pos := "build.go:65", after := #[{ on := 15, ground := Ground.data }, { on := 9, ground := Ground.guard }], guard := some (9, false) }) (v := undef) rfl (by kernel_rfl) (by kernel_rfl) (by kernel_rfl) (fun _ _ _ h => h) (Or.inr ⟨by kernel_rfl, rfl⟩) hS ?_
    try simp only [Act.put, List.setIfInBounds_toArray, List.set_cons_zero, List.set_cons_succ]
    refine wpAnyH_take (i := 17) (oi := { dst := some 21, op := Op.load 101 (Operand.tmp 20), type := 101, pos := "build.go:65", after := #[{ on := 16, ground := Ground.data }, { on := 9, ground := Ground.guard }], guard := some (9, false) }) (v := undef) rfl (by kernel_rfl) (by kernel_rfl) (by kernel_rfl) (fun _ _ _ h => h) (Or.inr ⟨by kernel_rfl, rfl⟩) hS ?_
    try simp only [Act.put, List.setIfInBounds_toArray, List.set_cons_zero, List.set_cons_succ]
    refine wpAnyH_take (i := 18) (oi := { dst := some 22, op := Op.call { callee := Callee.value (Operand.func 93), args := #[Operand.tmp 21], argTypes := #[101] }, type := 23, pos := "build.go:65", after := #[{ on := 17, ground := Ground.data }, { on := 9, ground := Ground.chain }, { on := 9, ground := Ground.guard }], guard := some (9, false) }) (v := undef) rfl (by kernel_rfl) (by kernel_rfl) (by kernel_rfl) (fun _ _ _ h => h) (Or.inr ⟨by kernel_rfl, rfl⟩) hS ?_
    try simp only [Act.put, List.setIfInBounds_toArray, List.set_cons_zero, List.set_cons_succ]
    refine wpAnyH_take (i := 19) (oi := { dst := some 23, op := Op.field 23 (Operand.tmp 22) 3, type := 3, pos := "build.go:65", after := #[{ on := 18, ground := Ground.data }, { on := 9, ground := Ground.guard }], guard := some (9, false) }) (v := undef) rfl (by kernel_rfl) (by kernel_rfl) (by kernel_rfl) (fun _ _ _ h => h) (Or.inr ⟨by kernel_rfl, rfl⟩) hS ?_
    try simp only [Act.put, List.setIfInBounds_toArray, List.set_cons_zero, List.set_cons_succ]
    refine wpAnyH_take (i := 20) (oi := { dst := some 24, op := Op.binOp BinOp.geq 3 (Operand.tmp 17) (Operand.tmp 23) 3, type := 4, pos := "build.go:65", after := #[{ on := 13, ground := Ground.data }, { on := 19, ground := Ground.data }, { on := 9, ground := Ground.guard }], guard := some (9, false) }) (v := undef) rfl (by kernel_rfl) (by kernel_rfl) (by kernel_rfl) (fun _ _ _ h => h) (Or.inr ⟨by kernel_rfl, rfl⟩) hS ?_
    try simp only [Act.put, List.setIfInBounds_toArray, List.set_cons_zero, List.set_cons_succ]
    refine wpAnyH_take (i := 21) (oi := { dst := some 25, op := Op.pick (Operand.tmp 13) (Operand.const (Value.bool true)) (Operand.tmp 24), type := 4, pos := "build.go:65", after := #[{ on := 9, ground := Ground.data }, { on := 20, ground := Ground.data }], guard := none }) (v := .bool true) rfl (by kernel_rfl) (by kernel_rfl) (by kernel_rfl) (fun _ _ _ h => h) (Or.inl ⟨by rfl, fun w hSw => by obtain ⟨q0, q1, q2, q3, q4, q5, q6, q7, q8, q9⟩ := HS0.out _ hSw; go_simp⟩) hS ?_
    try simp only [Act.put, List.setIfInBounds_toArray, List.set_cons_zero, List.set_cons_succ]
    refine wpAnyH_take (i := 22) (oi := { dst := some 26, op := Op.move (Operand.tmp 25), type := 4, pos := "build.go:65", after := #[{ on := 21, ground := Ground.data }, { on := 18, ground := Ground.chain }], guard := none }) (v := .bool true) rfl (by kernel_rfl) (by kernel_rfl) (by kernel_rfl) (fun _ _ _ h => h) (Or.inl ⟨by rfl, fun w hSw => by obtain ⟨q0, q1, q2, q3, q4, q5, q6, q7, q8, q9⟩ := HS0.out _ hSw; go_simp⟩) hS ?_
    try simp only [Act.put, List.setIfInBounds_toArray, List.set_cons_zero, List.set_cons_succ]
    refine wpAnyH_take (i := 23) (oi := { dst := some 27, op := Op.move (Operand.tmp 0), type := 38, pos := "build.go:65", after := #[{ on := 22, ground := Ground.guard }], guard := some (22, false) }) (v := undef) rfl (by kernel_rfl) (by kernel_rfl) (by kernel_rfl) (fun _ _ _ h => h) (Or.inr ⟨by kernel_rfl, rfl⟩) hS ?_
    try simp only [Act.put, List.setIfInBounds_toArray, List.set_cons_zero, List.set_cons_succ]
    refine wpAnyH_take (i := 24) (oi := { dst := some 28, op := Op.call { callee := Callee.value (Operand.func 94), args := #[Operand.tmp 27], argTypes := #[38] }, type := 4, pos := "build.go:65", after := #[{ on := 23, ground := Ground.data }, { on := 22, ground := Ground.chain }, { on := 22, ground := Ground.guard }], guard := some (22, false) }) (v := undef) rfl (by kernel_rfl) (by kernel_rfl) (by kernel_rfl) (fun _ _ _ h => h) (Or.inr ⟨by kernel_rfl, rfl⟩) hS ?_
    try simp only [Act.put, List.setIfInBounds_toArray, List.set_cons_zero, List.set_cons_succ]
    refine wpAnyH_take (i := 25) (oi := { dst := some 29, op := Op.pick (Operand.tmp 26) (Operand.const (Value.bool true)) (Operand.tmp 28), type := 4, pos := "build.go:65", after := #[{ on := 22, ground := Ground.data }, { on := 24, ground := Ground.data }], guard := none }) (v := .bool true) rfl (by kernel_rfl) (by kernel_rfl) (by kernel_rfl) (fun _ _ _ h => h) (Or.inl ⟨by rfl, fun w hSw => by obtain ⟨q0, q1, q2, q3, q4, q5, q6, q7, q8, q9⟩ := HS0.out _ hSw; go_simp⟩) hS ?_
    try simp only [Act.put, List.setIfInBounds_toArray, List.set_cons_zero, List.set_cons_succ]
    refine wpAnyH_done (by kernel_rfl) ?_ _
    have KL := hidOf ((Kept.refl [] w).drew)
    have BZ := HB.out.kept KL.out (by simp)
    have y4 := cell_of_blk BZ (i := 4) rfl
    have yf := free_of_blk BZ
    have yl := lt_of_blk BZ
    have HZ := hidOf BZ
    clear hS BZ
    go_wp2
    refine bodyPost_ret (v := .tuple #[]) (by simp [results, Tryz.results76, go_sem]) rfl ⟨rfl, ?_⟩
    rw [(show QV = .nilFunc from by rw [HE.out]; rfl)]
    exact ⟨HZ.out.set4 .nilFunc, (KL.out.weaken (m := [b]) (by simp)).then ((Kept.refl [b] _).setCell (Or.inl (by simp)) _) (by simp)⟩
  · have h1b : (lv == tl) = false := by simp [h1]
    by_cases h2 : c.h ≤ lv
    · have e : decide (tl ≤ lv ∨ c.h ≤ lv ∨ (enV f.d f.ss lv ≠ 0 ∧ enV f.d f.ks lv = k)) = true := decide_eq_true (Or.inr (Or.inl h2))
      rw [e]
      obtain ⟨QV, hQV⟩ : ∃ QV, QV = (if true = true then Value.nilFunc else ffV 95 b) := ⟨_, rfl⟩
      rw [← hQV]
      have HE := hidOf hQV
      clear hQV
      clear e hBB h1 hl RP
      go_enter Tryz.func76, Tryz.ntmps76
      go_wp2_with fail
      refine wp_region_held_drew (S := fun w' => Kept [] w w') (by kernel_rfl) (Kept.refl [] w).drew (fun hS => ?_)
      refine wpAnyH_take (i := 0) (oi := { dst := some 4, op := Op.move (Operand.tmp 0), type := 38, pos := "build.go:65", after := #[], guard := none }) (v := .pointer (some ⟨b, 0, none⟩)) rfl (by kernel_rfl) (by kernel_rfl) (by kernel_rfl) (fun _ _ _ h => h) (Or.inl ⟨by rfl, fun w hSw => by obtain ⟨q0, q1, q2, q3, q4, q5, q6, q7, q8, q9⟩ := HS0.out _ hSw; go_simp⟩) hS ?_
      try simp only [Act.put, List.setIfInBounds_toArray, List.set_cons_zero, List.set_cons_succ]
      refine wpAnyH_take (i := 1) (oi := { dst := some 5, op := Op.nilCheck (Operand.tmp 4), type := 0, pos := "build.go:65", after := #[{ on := 0, ground := Ground.data }], guard := none }) (v := .pointer (some ⟨b, 0, none⟩)) rfl (by kernel_rfl) (by kernel_rfl) (by kernel_rfl) (fun _ _ _ h => h) (Or.inl ⟨by rfl, fun w hSw => by obtain ⟨q0, q1, q2, q3, q4, q5, q6, q7, q8, q9⟩ := HS0.out _ hSw; go_simp⟩) hS ?_
      try simp only [Act.put, List.setIfInBounds_toArray, List.set_cons_zero, List.set_cons_succ]
      refine wpAnyH_take (i := 2) (oi := { dst := some 6, op := Op.fieldAddr 72 (Operand.tmp 5) 5, type := 0, pos := "build.go:65", after := #[{ on := 1, ground := Ground.data }], guard := none }) (v := .pointer (some ⟨b, 5, none⟩)) rfl (by kernel_rfl) (by kernel_rfl) (by kernel_rfl) (fun _ _ _ h => h) (Or.inl ⟨by rfl, fun w hSw => by obtain ⟨q0, q1, q2, q3, q4, q5, q6, q7, q8, q9⟩ := HS0.out _ hSw; go_simp⟩) hS ?_
      try simp only [Act.put, List.setIfInBounds_toArray, List.set_cons_zero, List.set_cons_succ]
      refine wpAnyH_take (i := 3) (oi := { dst := some 7, op := Op.load 3 (Operand.tmp 6), type := 3, pos := "build.go:65", after := #[{ on := 2, ground := Ground.data }], guard := none }) (v := .int .i64 lv) rfl (by kernel_rfl) (by kernel_rfl) (by kernel_rfl) (fun _ _ _ h => h) (Or.inl ⟨by rfl, fun w hSw => by obtain ⟨q0, q1, q2, q3, q4, q5, q6, q7, q8, q9⟩ := HS0.out _ hSw; go_simp⟩) hS ?_
      try simp only [Act.put, List.setIfInBounds_toArray, List.set_cons_zero, List.set_cons_succ]
      refine wpAnyH_take (i := 4) (oi := { dst := some 8, op := Op.move (Operand.tmp 0), type := 38, pos := "build.go:65", after := #[], guard := none }) (v := .pointer (some ⟨b, 0, none⟩)) rfl (by kernel_rfl) (by kernel_rfl) (by kernel_rfl) (fun _ _ _ h => h) (Or.inl ⟨by rfl, fun w hSw => by obtain ⟨q0, q1, q2, q3, q4, q5, q6, q7, q8, q9⟩ := HS0.out _ hSw; go_simp⟩) hS ?_
      try simp only [Act.put, List.setIfInBounds_toArray, List.set_cons_zero, List.set_cons_succ]
      refine wpAnyH_take (i := 5) (oi := { dst := some 9, op := Op.nilCheck (Operand.tmp 8), type := 0, pos := "build.go:65", after := #[{ on := 4, ground := Ground.data }], guard := none }) (v := .pointer (some ⟨b, 0, none⟩)) rfl (by kernel_rfl) (by kernel_rfl) (by kernel_rfl) (fun _ _ _ h => h) (Or.inl ⟨by rfl, fun w hSw => by obtain ⟨q0, q1, q2, q3, q4, q5, q6, q7, q8, q9⟩ := HS0.out _ hSw; go_simp⟩) hS ?_
      try simp only [Act.put, List.setIfInBounds_toArray, List.set_cons_zero, List.set_cons_succ]
      refine wpAnyH_take (i := 6) (oi := { dst := some 10, op := Op.fieldAddr 72 (Operand.tmp 9) 3, type := 0, pos := "build.go:65", after := #[{ on := 5, ground := Ground.data }], guard := none }) (v := .pointer (some ⟨b, 3, none⟩)) rfl (by kernel_rfl) (by kernel_rfl) (by kernel_rfl) (fun _ _ _ h => h) (Or.inl ⟨by rfl, fun w hSw => by obtain ⟨q0, q1, q2, q3, q4, q5, q6, q7, q8, q9⟩ := HS0.out _ hSw; go_simp⟩) hS ?_
      try simp only [Act.put, List.setIfInBounds_toArray, List.set_cons_zero, List.set_cons_succ]
      refine wpAnyH_take (i := 7) (oi := { dst := some 11, op := Op.load 3 (Operand.tmp 10), type := 3, pos := "build.go:65", after := #[{ on := 6, ground := Ground.data }], guard := none }) (v := .int .i64 tl) rfl (by kernel_rfl) (by kernel_rfl) (by kernel_rfl) (fun _ _ _ h => h) (Or.inl ⟨by rfl, fun w hSw => by obtain ⟨q0, q1, q2, q3, q4, q5, q6, q7, q8, q9⟩ := HS0.out _ hSw; go_simp⟩) hS ?_
      try simp only [Act.put, List.setIfInBounds_toArray, List.set_cons_zero, List.set_cons_succ]
      refine wpAnyH_take (i := 8) (oi := { dst := some 12, op := Op.binOp BinOp.eql 3 (Operand.tmp 7) (Operand.tmp 11) 3, type := 4, pos := "build.go:65", after := #[{ on := 3, ground := Ground.data }, { on := 7, ground := Ground.data }], guard := none }) (v := .bool false) rfl (by kernel_rfl) (by kernel_rfl) (by kernel_rfl) (fun _ _ _ h => h) (Or.inl ⟨by rfl, fun w hSw => by obtain ⟨q0, q1, q2, q3, q4, q5, q6, q7, q8, q9⟩ := HS0.out _ hSw; go_simp⟩) hS ?_
      try simp only [Act.put, List.setIfInBounds_toArray, List.set_cons_zero, List.set_cons_succ]
      refine wpAnyH_take (i := 9) (oi := { dst := some 13, op := Op.move (Operand.tmp 12), type := 4, pos := "build.go:65", after := #[{ on := 8, ground := Ground.data }], guard := none }) (v := .bool false) rfl (by kernel_rfl) (by kernel_rfl) (by kernel_rfl) (fun _ _ _ h => h) (Or.inl ⟨by rfl, fun w hSw => by obtain ⟨q0, q1, q2, q3, q4, q5, q6, q7, q8, q9⟩ := HS0.out _ hSw; go_simp⟩) hS ?_
      try simp only [Act.put, List.setIfInBounds_toArray, List.set_cons_zero, List.set_cons_succ]
      refine wpAnyH_take (i := 10) (oi := { dst := some 14, op := Op.move (Operand.tmp 0), type := 38, pos := "build.go:65", after := #[{ on := 9, ground := Ground.guard }], guard := some (9, false) }) (v := .pointer (some ⟨b, 0, none⟩)) rfl (by kernel_rfl) (by kernel_rfl) (by kernel_rfl) (fun _ _ _ h => h) (Or.inl ⟨by rfl, fun w hSw => by obtain ⟨q0, q1, q2, q3, q4, q5, q6, q7, q8, q9⟩ := HS0.out _ hSw; go_simp⟩) hS ?_
      try simp only [Act.put, List.setIfInBounds_toArray, List.set_cons_zero, List.set_cons_succ]
      refine wpAnyH_take (i := 11) (oi := { dst := some 15, op := Op.nilCheck (Operand.tmp 14), type := 0, pos := "build.go:65", after := #[{ on := 10, ground := Ground.data }, { on := 9, ground := Ground.guard }], guard := some (9, false) }) (v := .pointer (some ⟨b, 0, none⟩)) rfl (by kernel_rfl) (by kernel_rfl) (by kernel_rfl) (fun _ _ _ h => h) (Or.inl ⟨by rfl, fun w hSw => by obtain ⟨q0, q1, q2, q3, q4, q5, q6, q7, q8, q9⟩ := HS0.out _ hSw; go_simp⟩) hS ?_
      try simp only [Act.put, List.setIfInBounds_toArray, List.set_cons_zero, List.set_cons_succ]
      refine wpAnyH_take (i := 12) (oi := { dst := some 16, op := Op.fieldAddr 72 (Operand.tmp 15) 5, type := 0, pos := "build.go:65", after := #[{ on := 11, ground := Ground.data }, { on := 9, ground := Ground.guard }], guard := some (9, false) }) (v := .pointer (some ⟨b, 5, none⟩)) rfl (by kernel_rfl) (by kernel_rfl) (by kernel_rfl) (fun _ _ _ h => h) (Or.inl ⟨by rfl, fun w hSw => by obtain ⟨q0, q1, q2, q3, q4, q5, q6, q7, q8, q9⟩ := HS0.out _ hSw; go_simp⟩) hS ?_
      try simp only [Act.put, List.setIfInBounds_toArray, List.set_cons_zero, List.set_cons_succ]
      refine wpAnyH_take (i := 13) (oi := { dst := some 17, op := Op.load 3 (Operand.tmp 16), type := 3, pos := "build.go:65", after := #[{ on := 12, ground := Ground.data }, { on := 9, ground := Ground.guard }], guard := some (9, false) }) (v := .int .i64 lv) rfl (by kernel_rfl) (by kernel_rfl) (by kernel_rfl) (fun _ _ _ h => h) (Or.inl ⟨by rfl, fun w hSw => by obtain ⟨q0, q1, q2, q3, q4, q5, q6, q7, q8, q9⟩ := HS0.out _ hSw; go_simp⟩) hS ?_
      try simp only [Act.put, List.setIfInBounds_toArray, List.set_cons_zero, List.set_cons_succ]
      refine wpAnyH_take (i := 14) (oi := { dst := some 18, op := Op.move (Operand.tmp 1), type := 29, pos := "build.go:65", after := #[{ on := 9, ground := Ground.guard }], guard := some (9, false) }) (v := .pointer (some ⟨m, 0, none⟩)) rfl (by kernel_rfl) (by kernel_rfl) (by kernel_rfl) (fun _ _ _ h => h) (Or.inl ⟨by rfl, fun w hSw => by obtain ⟨q0, q1, q2, q3, q4, q5, q6, q7, q8, q9⟩ := HS0.out _ hSw; go_simp⟩) hS ?_
      try simp only [Act.put, List.setIfInBounds_toArray, List.set_cons_zero, List.set_cons_succ]
      refine wpAnyH_take (i := 15) (oi := { dst := some 19, op := Op.nilCheck (Operand.tmp 18), type := 0, pos := "build.go:65", after := #[{ on := 14, ground := Ground.data }, { on := 9, ground := Ground.guard }], guard := some (9, false) }) (v := .pointer (some ⟨m, 0, none⟩)) rfl (by kernel_rfl) (by kernel_rfl) (by kernel_rfl) (fun _ _ _ h => h) (Or.inl ⟨by rfl, fun w hSw => by obtain ⟨q0, q1, q2, q3, q4, q5, q6, q7, q8, q9⟩ := HS0.out _ hSw; go_simp⟩) hS ?_
      try simp only [Act.put, List.setIfInBounds_toArray, List.set_cons_zero, List.set_cons_succ]
      refine wpAnyH_take (i := 16) (oi := { dst := some 20, op := Op.fieldAddr 104 (Operand.tmp 19) 0, type := 0, pos := "build.go:65", after := #[{ on := 15, ground := Ground.data }, { on := 9, ground := Ground.guard }], guard := some (9, false) }) (v := .pointer (some ⟨m, 0, none⟩)) rfl (by kernel_rfl) (by kernel_rfl) (by kernel_rfl) (fun _ _ _ h => h) (Or.inl ⟨by rfl, fun w hSw => by obtain ⟨q0, q1, q2, q3, q4, q5, q6, q7, q8, q9⟩ := HS0.out _ hSw; go_simp⟩) hS ?_
      try simp only [Act.put, List.setIfInBounds_toArray, List.set_cons_zero, List.set_cons_succ]
      refine wpAnyH_take (i := 17) (oi := { dst := some 21, op := Op.load 101 (Operand.tmp 20), type := 101, pos := "build.go:65", after := #[{ on := 16, ground := Ground.data }, { on := 9, ground := Ground.guard }], guard := some (9, false) }) (v := .agg #[.int .i64 c.t, .int .i64 c.s, .int .i64 c.c, .int .i64 c.h, .int .i64 c.k, .int .i64 c.e, .int .i64 c.l]) rfl (by kernel_rfl) (by kernel_rfl) (by kernel_rfl) (fun _ _ _ h => h) (Or.inl ⟨by rfl, fun w hSw => by obtain ⟨q0, q1, q2, q3, q4, q5, q6, q7, q8, q9⟩ := HS0.out _ hSw; go_simp⟩) hS ?_
      try simp only [Act.put, List.setIfInBounds_toArray, List.set_cons_zero, List.set_cons_succ]
      refine wpAnyH_ready (rs := [18]) (by kernel_rfl) (by simp) ?_
      refine AllReadyH.cons (o := { dst := some 22, op := Op.call { callee := Callee.value (Operand.func 93), args := #[Operand.tmp 21], argTypes := #[101] }, type := 23, pos := "build.go:65", after := #[{ on := 17, ground := Ground.data }, { on := 9, ground := Ground.chain }, { on := 9, ground := Ground.guard }], guard := some (9, false) }) rfl (fun K hK => ?_) AllReadyH.nil
      rw [if_pos (by rfl)]
      refine wp_calls 93 #[.agg #[.int .i64 c.t, .int .i64 c.s, .int .i64 c.c, .int .i64 c.h, .int .i64 c.k, .int .i64 c.e, .int .i64 c.l]] (by kernel_rfl) (fun v V => v = .agg #[.int .i64 c.t, .int .i64 c.s, .int .i64 c.c, .int .i64 c.h, .int .i64 c.k, .int .i64 c.e, .int .i64 c.l] ∧ Kept [] w V) ((CF.out _ hS).mono fun e w' hh => ⟨_, hh.1, rfl, hh.2⟩) ?_
      rintro _ w9 ⟨rfl, K9⟩
      try simp only [Act.put, List.setIfInBounds_toArray, List.set_cons_zero, List.set_cons_succ]
      refine hK.out _ _ (K9) (fun hS => ?_)
      clear hK K
      refine wpAnyH_take (i := 19) (oi := { dst := some 23, op := Op.field 23 (Operand.tmp 22) 3, type := 3, pos := "build.go:65", after := #[{ on := 18, ground := Ground.data }, { on := 9, ground := Ground.guard }], guard := some (9, false) }) (v := .int .i64 c.h) rfl (by kernel_rfl) (by kernel_rfl) (by kernel_rfl) (fun _ _ _ h => h) (Or.inl ⟨by rfl, fun w hSw => by obtain ⟨q0, q1, q2, q3, q4, q5, q6, q7, q8, q9⟩ := HS0.out _ hSw; go_simp⟩) hS ?_
      try simp only [Act.put, List.setIfInBounds_toArray, List.set_cons_zero, List.set_cons_succ]
      refine wpAnyH_take (i := 20) (oi := { dst := some 24, op := Op.binOp BinOp.geq 3 (Operand.tmp 17) (Operand.tmp 23) 3, type := 4, pos := "build.go:65", after := #[{ on := 13, ground := Ground.data }, { on := 19, ground := Ground.data }, { on := 9, ground := Ground.guard }], guard := some (9, false) }) (v := .bool true) rfl (by kernel_rfl) (by kernel_rfl) (by kernel_rfl) (fun _ _ _ h => h) (Or.inl ⟨by rfl, fun w hSw => by obtain ⟨q0, q1, q2, q3, q4, q5, q6, q7, q8, q9⟩ := HS0.out _ hSw; go_simp⟩) hS ?_
      try simp only [Act.put, List.setIfInBounds_toArray, List.set_cons_zero, List.set_cons_succ]
      refine wpAnyH_take (i := 21) (oi := { dst := some 25, op := Op.pick (Operand.tmp 13) (Operand.const (Value.bool true)) (Operand.tmp 24), type := 4, pos := "build.go:65", after := #[{ on := 9, ground := Ground.data }, { on := 20, ground := Ground.data }], guard := none }) (v := .bool true) rfl (by kernel_rfl) (by kernel_rfl) (by kernel_rfl) (fun _ _ _ h => h) (Or.inl ⟨by rfl, fun w hSw => by obtain ⟨q0, q1, q2, q3, q4, q5, q6, q7, q8, q9⟩ := HS0.out _ hSw; go_simp⟩) hS ?_
      try simp only [Act.put, List.setIfInBounds_toArray, List.set_cons_zero, List.set_cons_succ]
      refine wpAnyH_take (i := 22) (oi := { dst := some 26, op := Op.move (Operand.tmp 25), type := 4, pos := "build.go:65", after := #[{ on := 21, ground := Ground.data }, { on := 18, ground := Ground.chain }], guard := none }) (v := .bool true) rfl (by kernel_rfl) (by kernel_rfl) (by kernel_rfl) (fun _ _ _ h => h) (Or.inl ⟨by rfl, fun w hSw => by obtain ⟨q0, q1, q2, q3, q4, q5, q6, q7, q8, q9⟩ := HS0.out _ hSw; go_simp⟩) hS ?_
      try simp only [Act.put, List.setIfInBounds_toArray, List.set_cons_zero, List.set_cons_succ]
      refine wpAnyH_take (i := 23) (oi := { dst := some 27, op := Op.move (Operand.tmp 0), type := 38, pos := "build.go:65", after := #[{ on := 22, ground := Ground.guard }], guard := some (22, false) }) (v := undef) rfl (by kernel_rfl) (by kernel_rfl) (by kernel_rfl) (fun _ _ _ h => h) (Or.inr ⟨by kernel_rfl, rfl⟩) hS ?_
      try simp only [Act.put, List.setIfInBounds_toArray, List.set_cons_zero, List.set_cons_succ]
      refine wpAnyH_take (i := 24) (oi := { dst := some 28, op := Op.call { callee := Callee.value (Operand.func 94), args := #[Operand.tmp 27], argTypes := #[38] }, type := 4, pos := "build.go:65", after := #[{ on := 23, ground := Ground.data }, { on := 22, ground := Ground.chain }, { on := 22, ground := Ground.guard }], guard := some (22, false) }) (v := undef) rfl (by kernel_rfl) (by kernel_rfl) (by kernel_rfl) (fun _ _ _ h => h) (Or.inr ⟨by kernel_rfl, rfl⟩) hS ?_
      try simp only [Act.put, List.setIfInBounds_toArray, List.set_cons_zero, List.set_cons_succ]
      refine wpAnyH_take (i := 25) (oi := { dst := some 29, op := Op.pick (Operand.tmp 26) (Operand.const (Value.bool true)) (Operand.tmp 28), type := 4, pos := "build.go:65", after := #[{ on := 22, ground := Ground.data }, { on := 24, ground := Ground.data }], guard := none }) (v := .bool true) rfl (by kernel_rfl) (by kernel_rfl) (by kernel_rfl) (fun _ _ _ h => h) (Or.inl ⟨by rfl, fun w hSw => by obtain ⟨q0, q1, q2, q3, q4, q5, q6, q7, q8, q9⟩ := HS0.out _ hSw; go_simp⟩) hS ?_
      try simp only [Act.put, List.setIfInBounds_toArray, List.set_cons_zero, List.set_cons_succ]
      refine wpAnyH_done (by kernel_rfl) ?_ _
      have KL := hidOf (K9)
      have BZ := HB.out.kept KL.out (by simp)
      have y4 := cell_of_blk BZ (i := 4) rfl
      have yf := free_of_blk BZ
      have yl := lt_of_blk BZ
      have HZ := hidOf BZ
      clear hS BZ
      go_wp2
      refine bodyPost_ret (v := .tuple #[]) (by simp [results, Tryz.results76, go_sem]) rfl ⟨rfl, ?_⟩
      rw [(show QV = .nilFunc from by rw [HE.out]; rfl)]
      exact ⟨HZ.out.set4 .nilFunc, (KL.out.weaken (m := [b]) (by simp)).then ((Kept.refl [b] _).setCell (Or.inl (by simp)) _) (by simp)⟩
    · have e : decide (tl ≤ lv ∨ c.h ≤ lv ∨ (enV f.d f.ss lv ≠ 0 ∧ enV f.d f.ks lv = k)) = B := by
        rw [← hBB]; congr 1; simp only [eq_iff_iff]
        exact ⟨fun z => z.resolve_left (by omega) |>.resolve_left h2, fun z => Or.inr (Or.inr z)⟩
      rw [e]
      obtain ⟨QV, hQV⟩ : ∃ QV, QV = (if B = true then Value.nilFunc else ffV 95 b) := ⟨_, rfl⟩
      rw [← hQV]
      have HE := hidOf hQV
      clear hQV
      clear e hBB h1 hl
      go_enter Tryz.func76, Tryz.ntmps76
      go_wp2_with fail
      refine wp_region_held_drew (S := fun w' => Kept [] w w') (by kernel_rfl) (Kept.refl [] w).drew (fun hS => ?_)
      refine wpAnyH_take (i := 0) (oi := { dst := some 4, op := Op.move (Operand.tmp 0), type := 38, pos := "build.go:65", after := #[], guard := none }) (v := .pointer (some ⟨b, 0, none⟩)) rfl (by kernel_rfl) (by kernel_rfl) (by kernel_rfl) (fun _ _ _ h => h) (Or.inl ⟨by rfl, fun w hSw => by obtain ⟨q0, q1, q2, q3, q4, q5, q6, q7, q8, q9⟩ := HS0.out _ hSw; go_simp⟩) hS ?_
      try simp only [Act.put, List.setIfInBounds_toArray, List.set_cons_zero, List.set_cons_succ]
      refine wpAnyH_take (i := 1) (oi := { dst := some 5, op := Op.nilCheck (Operand.tmp 4), type := 0, pos := "build.go:65", after := #[{ on := 0, ground := Ground.data }], guard := none }) (v := .pointer (some ⟨b, 0, none⟩)) rfl (by kernel_rfl) (by kernel_rfl) (by kernel_rfl) (fun _ _ _ h => h) (Or.inl ⟨by rfl, fun w hSw => by obtain ⟨q0, q1, q2, q3, q4, q5, q6, q7, q8, q9⟩ := HS0.out _ hSw; go_simp⟩) hS ?_
      try simp only [Act.put, List.setIfInBounds_toArray, List.set_cons_zero, List.set_cons_succ]
      refine wpAnyH_take (i := 2) (oi := { dst := some 6, op := Op.fieldAddr 72 (Operand.tmp 5) 5, type := 0, pos := "build.go:65", after := #[{ on := 1, ground := Ground.data }], guard := none }) (v := .pointer (some ⟨b, 5, none⟩)) rfl (by kernel_rfl) (by kernel_rfl) (by kernel_rfl) (fun _ _ _ h => h) (Or.inl ⟨by rfl, fun w hSw => by obtain ⟨q0, q1, q2, q3, q4, q5, q6, q7, q8, q9⟩ := HS0.out _ hSw; go_simp⟩) hS ?_
      try simp only [Act.put, List.setIfInBounds_toArray, List.set_cons_zero, List.set_cons_succ]
      refine wpAnyH_take (i := 3) (oi := { dst := some 7, op := Op.load 3 (Operand.tmp 6), type := 3, pos := "build.go:65", after := #[{ on := 2, ground := Ground.data }], guard := none }) (v := .int .i64 lv) rfl (by kernel_rfl) (by kernel_rfl) (by kernel_rfl) (fun _ _ _ h => h) (Or.inl ⟨by rfl, fun w hSw => by obtain ⟨q0, q1, q2, q3, q4, q5, q6, q7, q8, q9⟩ := HS0.out _ hSw; go_simp⟩) hS ?_
      try simp only [Act.put, List.setIfInBounds_toArray, List.set_cons_zero, List.set_cons_succ]
      refine wpAnyH_take (i := 4) (oi := { dst := some 8, op := Op.move (Operand.tmp 0), type := 38, pos := "build.go:65", after := #[], guard := none }) (v := .pointer (some ⟨b, 0, none⟩)) rfl (by kernel_rfl) (by kernel_rfl) (by kernel_rfl) (fun _ _ _ h => h) (Or.inl ⟨by rfl, fun w hSw => by obtain ⟨q0, q1, q2, q3, q4, q5, q6, q7, q8, q9⟩ := HS0.out _ hSw; go_simp⟩) hS ?_
      try simp only [Act.put, List.setIfInBounds_toArray, List.set_cons_zero, List.set_cons_succ]
      refine wpAnyH_take (i := 5) (oi := { dst := some 9, op := Op.nilCheck (Operand.tmp 8), type := 0, pos := "build.go:65", after := #[{ on := 4, ground := Ground.data }], guard := none }) (v := .pointer (some ⟨b, 0, none⟩)) rfl (by kernel_rfl) (by kernel_rfl) (by kernel_rfl) (fun _ _ _ h => h) (Or.inl ⟨by rfl, fun w hSw => by obtain ⟨q0, q1, q2, q3, q4, q5, q6, q7, q8, q9⟩ := HS0.out _ hSw; go_simp⟩) hS ?_
      try simp only [Act.put, List.setIfInBounds_toArray, List.set_cons_zero, List.set_cons_succ]
      refine wpAnyH_take (i := 6) (oi := { dst := some 10, op := Op.fieldAddr 72 (Operand.tmp 9) 3, type := 0, pos := "build.go:65", after := #[{ on := 5, ground := Ground.data }], guard := none }) (v := .pointer (some ⟨b, 3, none⟩)) rfl (by kernel_rfl) (by kernel_rfl) (by kernel_rfl) (fun _ _ _ h => h) (Or.inl ⟨by rfl, fun w hSw => by obtain ⟨q0, q1, q2, q3, q4, q5, q6, q7, q8, q9⟩ := HS0.out _ hSw; go_simp⟩) hS ?_
      try simp only [Act.put, List.setIfInBounds_toArray, List.set_cons_zero, List.set_cons_succ]
      refine wpAnyH_take (i := 7) (oi := { dst := some 11, op := Op.load 3 (Operand.tmp 10), type := 3, pos := "build.go:65", after := #[{ on := 6, ground := Ground.data }], guard := none }) (v := .int .i64 tl) rfl (by kernel_rfl) (by kernel_rfl) (by kernel_rfl) (fun _ _ _ h => h) (Or.inl ⟨by rfl, fun w hSw => by obtain ⟨q0, q1, q2, q3, q4, q5, q6, q7, q8, q9⟩ := HS0.out _ hSw; go_simp⟩) hS ?_
      try simp only [Act.put, List.setIfInBounds_toArray, List.set_cons_zero, List.set_cons_succ]
      refine wpAnyH_take (i := 8) (oi := { dst := some 12, op := Op.binOp BinOp.eql 3 (Operand.tmp 7) (Operand.tmp 11) 3, type := 4, pos := "build.go:65", after := #[{ on := 3, ground := Ground.data }, { on := 7, ground := Ground.data }], guard := none }) (v := .bool false) rfl (by kernel_rfl) (by kernel_rfl) (by kernel_rfl) (fun _ _ _ h => h) (Or.inl ⟨by rfl, fun w hSw => by obtain ⟨q0, q1, q2, q3, q4, q5, q6, q7, q8, q9⟩ := HS0.out _ hSw; go_simp⟩) hS ?_
      try simp only [Act.put, List.setIfInBounds_toArray, List.set_cons_zero, List.set_cons_succ]
      refine wpAnyH_take (i := 9) (oi := { dst := some 13, op := Op.move (Operand.tmp 12), type := 4, pos := "build.go:65", after := #[{ on := 8, ground := Ground.data }], guard := none }) (v := .bool false) rfl (by kernel_rfl) (by kernel_rfl) (by kernel_rfl) (fun _ _ _ h => h) (Or.inl ⟨by rfl, fun w hSw => by obtain ⟨q0, q1, q2, q3, q4, q5, q6, q7, q8, q9⟩ := HS0.out _ hSw; go_simp⟩) hS ?_
      try simp only [Act.put, List.setIfInBounds_toArray, List.set_cons_zero, List.set_cons_succ]
      refine wpAnyH_take (i := 10) (oi := { dst := some 14, op := Op.move (Operand.tmp 0), type := 38, pos := "build.go:65", after := #[{ on := 9, ground := Ground.guard }], guard := some (9, false) }) (v := .pointer (some ⟨b, 0, none⟩)) rfl (by kernel_rfl) (by kernel_rfl) (by kernel_rfl) (fun _ _ _ h => h) (Or.inl ⟨by rfl, fun w hSw => by obtain ⟨q0, q1, q2, q3, q4, q5, q6, q7, q8, q9⟩ := HS0.out _ hSw; go_simp⟩) hS ?_
      try simp only [Act.put, List.setIfInBounds_toArray, List.set_cons_zero, List.set_cons_succ]
      refine wpAnyH_take (i := 11) (oi := { dst := some 15, op := Op.nilCheck (Operand.tmp 14), type := 0, pos := "build.go:65", after := #[{ on := 10, ground := Ground.data }, { on := 9, ground := Ground.guard }], guard := some (9, false) }) (v := .pointer (some ⟨b, 0, none⟩)) rfl (by kernel_rfl) (by kernel_rfl) (by kernel_rfl) (fun _ _ _ h => h) (Or.inl ⟨by rfl, fun w hSw => by obtain ⟨q0, q1, q2, q3, q4, q5, q6, q7, q8, q9⟩ := HS0.out _ hSw; go_simp⟩) hS ?_
      try simp only [Act.put, List.setIfInBounds_toArray, List.set_cons_zero, List.set_cons_succ]
      refine wpAnyH_take (i := 12) (oi := { dst := some 16, op := Op.fieldAddr 72 (Operand.tmp 15) 5, type := 0, pos := "build.go:65", after := #[{ on := 11, ground := Ground.data }, { on := 9, ground := Ground.guard }], guard := some (9, false) }) (v := .pointer (some ⟨b, 5, none⟩)) rfl (by kernel_rfl) (by kernel_rfl) (by kernel_rfl) (fun _ _ _ h => h) (Or.inl ⟨by rfl, fun w hSw => by obtain ⟨q0, q1, q2, q3, q4, q5, q6, q7, q8, q9⟩ := HS0.out _ hSw; go_simp⟩) hS ?_
      try simp only [Act.put, List.setIfInBounds_toArray, List.set_cons_zero, List.set_cons_succ]
      refine wpAnyH_take (i := 13) (oi := { dst := some 17, op := Op.load 3 (Operand.tmp 16), type := 3, pos := "build.go:65", after := #[{ on := 12, ground := Ground.data }, { on := 9, ground := Ground.guard }], guard := some (9, false) }) (v := .int .i64 lv) rfl (by kernel_rfl) (by kernel_rfl) (by kernel_rfl) (fun _ _ _ h => h) (Or.inl ⟨by rfl, fun w hSw => by obtain ⟨q0, q1, q2, q3, q4, q5, q6, q7, q8, q9⟩ := HS0.out _ hSw; go_simp⟩) hS ?_
      try simp only [Act.put, List.setIfInBounds_toArray, List.set_cons_zero, List.set_cons_succ]
      refine wpAnyH_take (i := 14) (oi := { dst := some 18, op := Op.move (Operand.tmp 1), type := 29, pos := "build.go:65", after := #[{ on := 9, ground := Ground.guard }], guard := some (9, false) }) (v := .pointer (some ⟨m, 0, none⟩)) rfl (by kernel_rfl) (by kernel_rfl) (by kernel_rfl) (fun _ _ _ h => h) (Or.inl ⟨by rfl, fun w hSw => by obtain ⟨q0, q1, q2, q3, q4, q5, q6, q7, q8, q9⟩ := HS0.out _ hSw; go_simp⟩) hS ?_
      try simp only [Act.put, List.setIfInBounds_toArray, List.set_cons_zero, List.set_cons_succ]
      refine wpAnyH_take (i := 15) (oi := { dst := some 19, op := Op.nilCheck (Operand.tmp 18), type := 0, pos := "build.go:65", after := #[{ on := 14, ground := Ground.data }, { on := 9, ground := Ground.guard }], guard := some (9, false) }) (v := .pointer (some ⟨m, 0, none⟩)) rfl (by kernel_rfl) (by kernel_rfl) (by kernel_rfl) (fun _ _ _ h => h) (Or.inl ⟨by rfl, fun w hSw => by obtain ⟨q0, q1, q2, q3, q4, q5, q6, q7, q8, q9⟩ := HS0.out _ hSw; go_simp⟩) hS ?_
      try simp only [Act.put, List.setIfInBounds_toArray, List.set_cons_zero, List.set_cons_succ]
      refine wpAnyH_take (i := 16) (oi := { dst := some 20, op := Op.fieldAddr 104 (Operand.tmp 19) 0, type := 0, pos := "build.go:65", after := #[{ on := 15, ground := Ground.data }, { on := 9, ground := Ground.guard }], guard := some (9, false) }) (v := .pointer (some ⟨m, 0, none⟩)) rfl (by kernel_rfl) (by kernel_rfl) (by kernel_rfl) (fun _ _ _ h => h) (Or.inl ⟨by rfl, fun w hSw => by obtain ⟨q0, q1, q2, q3, q4, q5, q6, q7, q8, q9⟩ := HS0.out _ hSw; go_simp⟩) hS ?_
      try simp only [Act.put, List.setIfInBounds_toArray, List.set_cons_zero, List.set_cons_succ]
      refine wpAnyH_take (i := 17) (oi := { dst := some 21, op := Op.load 101 (Operand.tmp 20), type := 101, pos := "build.go:65", after := #[{ on := 16, ground := Ground.data }, { on := 9, ground := Ground.guard }], guard := some (9, false) }) (v := .agg #[.int .i64 c.t, .int .i64 c.s, .int .i64 c.c, .int .i64 c.h, .int .i64 c.k, .int .i64 c.e, .int .i64 c.l]) rfl (by kernel_rfl) (by kernel_rfl) (by kernel_rfl) (fun _ _ _ h => h) (Or.inl ⟨by rfl, fun w hSw => by obtain ⟨q0, q1, q2, q3, q4, q5, q6, q7, q8, q9⟩ := HS0.out _ hSw; go_simp⟩) hS ?_
      try simp only [Act.put, List.setIfInBounds_toArray, List.set_cons_zero, List.set_cons_succ]
      refine wpAnyH_ready (rs := [18]) (by kernel_rfl) (by simp) ?_
      refine AllReadyH.cons (o := { dst := some 22, op := Op.call { callee := Callee.value (Operand.func 93), args := #[Operand.tmp 21], argTypes := #[101] }, type := 23, pos := "build.go:65", after := #[{ on := 17, ground := Ground.data }, { on := 9, ground := Ground.chain }, { on := 9, ground := Ground.guard }], guard := some (9, false) }) rfl (fun K hK => ?_) AllReadyH.nil
      rw [if_pos (by rfl)]
      refine wp_calls 93 #[.agg #[.int .i64 c.t, .int .i64 c.s, .int .i64 c.c, .int .i64 c.h, .int .i64 c.k, .int .i64 c.e, .int .i64 c.l]] (by kernel_rfl) (fun v V => v = .agg #[.int .i64 c.t, .int .i64 c.s, .int .i64 c.c, .int .i64 c.h, .int .i64 c.k, .int .i64 c.e, .int .i64 c.l] ∧ Kept [] w V) ((CF.out _ hS).mono fun e w' hh => ⟨_, hh.1, rfl, hh.2⟩) ?_
      rintro _ w9 ⟨rfl, K9⟩
      try simp only [Act.put, List.setIfInBounds_toArray, List.set_cons_zero, List.set_cons_succ]
      refine hK.out _ _ (K9) (fun hS => ?_)
      clear hK K
      refine wpAnyH_take (i := 19) (oi := { dst := some 23, op := Op.field 23 (Operand.tmp 22) 3, type := 3, pos := "build.go:65", after := #[{ on := 18, ground := Ground.data }, { on := 9, ground := Ground.guard }], guard := some (9, false) }) (v := .int .i64 c.h) rfl (by kernel_rfl) (by kernel_rfl) (by kernel_rfl) (fun _ _ _ h => h) (Or.inl ⟨by rfl, fun w hSw => by obtain ⟨q0, q1, q2, q3, q4, q5, q6, q7, q8, q9⟩ := HS0.out _ hSw; go_simp⟩) hS ?_
      try simp only [Act.put, List.setIfInBounds_toArray, List.set_cons_zero, List.set_cons_succ]
      refine wpAnyH_take (i := 20) (oi := { dst := some 24, op := Op.binOp BinOp.geq 3 (Operand.tmp 17) (Operand.tmp 23) 3, type := 4, pos := "build.go:65", after := #[{ on := 13, ground := Ground.data }, { on := 19, ground := Ground.data }, { on := 9, ground := Ground.guard }], guard := some (9, false) }) (v := .bool false) rfl (by kernel_rfl) (by kernel_rfl) (by kernel_rfl) (fun _ _ _ h => h) (Or.inl ⟨by rfl, fun w hSw => by obtain ⟨q0, q1, q2, q3, q4, q5, q6, q7, q8, q9⟩ := HS0.out _ hSw; go_simp⟩) hS ?_
      try simp only [Act.put, List.setIfInBounds_toArray, List.set_cons_zero, List.set_cons_succ]
      refine wpAnyH_take (i := 21) (oi := { dst := some 25, op := Op.pick (Operand.tmp 13) (Operand.const (Value.bool true)) (Operand.tmp 24), type := 4, pos := "build.go:65", after := #[{ on := 9, ground := Ground.data }, { on := 20, ground := Ground.data }], guard := none }) (v := .bool false) rfl (by kernel_rfl) (by kernel_rfl) (by kernel_rfl) (fun _ _ _ h => h) (Or.inl ⟨by rfl, fun w hSw => by obtain ⟨q0, q1, q2, q3, q4, q5, q6, q7, q8, q9⟩ := HS0.out _ hSw; go_simp⟩) hS ?_
      try simp only [Act.put, List.setIfInBounds_toArray, List.set_cons_zero, List.set_cons_succ]
      refine wpAnyH_take (i := 22) (oi := { dst := some 26, op := Op.move (Operand.tmp 25), type := 4, pos := "build.go:65", after := #[{ on := 21, ground := Ground.data }, { on := 18, ground := Ground.chain }], guard := none }) (v := .bool false) rfl (by kernel_rfl) (by kernel_rfl) (by kernel_rfl) (fun _ _ _ h => h) (Or.inl ⟨by rfl, fun w hSw => by obtain ⟨q0, q1, q2, q3, q4, q5, q6, q7, q8, q9⟩ := HS0.out _ hSw; go_simp⟩) hS ?_
      try simp only [Act.put, List.setIfInBounds_toArray, List.set_cons_zero, List.set_cons_succ]
      refine wpAnyH_take (i := 23) (oi := { dst := some 27, op := Op.move (Operand.tmp 0), type := 38, pos := "build.go:65", after := #[{ on := 22, ground := Ground.guard }], guard := some (22, false) }) (v := .pointer (some ⟨b, 0, none⟩)) rfl (by kernel_rfl) (by kernel_rfl) (by kernel_rfl) (fun _ _ _ h => h) (Or.inl ⟨by rfl, fun w hSw => by obtain ⟨q0, q1, q2, q3, q4, q5, q6, q7, q8, q9⟩ := HS0.out _ hSw; go_simp⟩) hS ?_
      try simp only [Act.put, List.setIfInBounds_toArray, List.set_cons_zero, List.set_cons_succ]
      refine wpAnyH_ready (rs := [24]) (by kernel_rfl) (by simp) ?_
      refine AllReadyH.cons (o := { dst := some 28, op := Op.call { callee := Callee.value (Operand.func 94), args := #[Operand.tmp 27], argTypes := #[38] }, type := 4, pos := "build.go:65", after := #[{ on := 23, ground := Ground.data }, { on := 22, ground := Ground.chain }, { on := 22, ground := Ground.guard }], guard := some (22, false) }) rfl (fun K hK => ?_) AllReadyH.nil
      rw [if_pos (by rfl)]
      refine wp_calls 94 #[.pointer (some ⟨b, 0, none⟩)] (by kernel_rfl) (fun v V => v = .bool B ∧ Kept [] w V) ((RP.out _ hS).mono fun e w' hh => ⟨_, hh.1, rfl, hh.2⟩) ?_
      rintro _ w10 ⟨rfl, K10⟩
      try simp only [Act.put, List.setIfInBounds_toArray, List.set_cons_zero, List.set_cons_succ]
      refine hK.out _ _ (K10) (fun hS => ?_)
      clear hK K
      refine wpAnyH_take (i := 25) (oi := { dst := some 29, op := Op.pick (Operand.tmp 26) (Operand.const (Value.bool true)) (Operand.tmp 28), type := 4, pos := "build.go:65", after := #[{ on := 22, ground := Ground.data }, { on := 24, ground := Ground.data }], guard := none }) (v := .bool B) rfl (by kernel_rfl) (by kernel_rfl) (by kernel_rfl) (fun _ _ _ h => h) (Or.inl ⟨by rfl, fun w hSw => by obtain ⟨q0, q1, q2, q3, q4, q5, q6, q7, q8, q9⟩ := HS0.out _ hSw; go_simp⟩) hS ?_
      try simp only [Act.put, List.setIfInBounds_toArray, List.set_cons_zero, List.set_cons_succ]
      refine wpAnyH_done (by kernel_rfl) ?_ _
      cases B with
      | true =>
        have KL := hidOf (K10)
        have BZ := HB.out.kept KL.out (by simp)
        have y4 := cell_of_blk BZ (i := 4) rfl
        have yf := free_of_blk BZ
        have yl := lt_of_blk BZ
        have HZ := hidOf BZ
        clear hS BZ
        go_wp2
        refine bodyPost_ret (v := .tuple #[]) (by simp [results, Tryz.results76, go_sem]) rfl ⟨rfl, ?_⟩
        rw [(show QV = .nilFunc from by rw [HE.out]; rfl)]
        exact ⟨HZ.out.set4 .nilFunc, (KL.out.weaken (m := [b]) (by simp)).then ((Kept.refl [b] _).setCell (Or.inl (by simp)) _) (by simp)⟩
      | false =>
        have KL := hidOf (K10)
        have BZ := HB.out.kept KL.out (by simp)
        have y4 := cell_of_blk BZ (i := 4) rfl
        have yf := free_of_blk BZ
        have yl := lt_of_blk BZ
        have HZ := hidOf BZ
        clear hS BZ
        go_wp2
        go_end0
        refine ⟨rfl, ?_⟩
        rw [(show QV = (ffV 95 b) from by rw [HE.out]; rfl)]
        exact ⟨HZ.out.set4 (ffV 95 b), (KL.out.weaken (m := [b]) (by simp)).then ((Kept.refl [b] _).setCell (Or.inl (by simp)) _) (by simp)⟩
end K
end Go.Proofs.YtkjjieklccbmoaaGreatDoor
namespace Go.Proofs.YtkjjieklccbmoaaGreatDoor
open Go.RowKit (Grown Hid Below)
open Go.Deep
namespace K
set_option maxRecDepth 100000
section
variable {base : Nat → Prop} {w0 w w' : World} {b gb m p r : Nat} {c : Cfg} {g : Gs} {f : Fm} {cs : List Int} {cnt : Int} {a : Acc}
/-- A find, its guard and other words, that were accessed. -/
theorem Fw.mm {cs' : List Int} {cnt' : Int} {a' : Acc} (h : Fw base w0 w b gb m p r c g f cs cnt a) (M : Mm w' m p r c cs' cnt' a') (K : Kept [p, r] w w') (wd : Wds cs') (n0 : 0 ≤ cnt') : Fw base w0 w' b gb m p r c g f cs' cnt' a' := by
  have nm := fs_nm h.st.fs h.st.mm
  have gm := h.st.gd.nm h.st.mm
  have KK : Kept [] w0 w' := h.kp.then K (by have := h.op; have := h.ow; simp; omega)
  exact ⟨⟨h.st.R, h.st.fs.kept K (by simp; omega) (fun g3 _ he => by
    obtain ⟨A, hA⟩ := he
    have n1 := blk_ne (T1 := 163) hA h.st.mm.bk.st (by decide)
    have n2 := blk_ne (T1 := 163) hA h.st.mm.bk.row (by decide)
    simp; omega), h.st.gd.kept K (by simp; omega), M, h.t0.kept KK, h.st.fi, wd, h.st.u0, h.st.u1, h.st.g0, fun z hz => h.st.bs z (Nat.le_trans K.size hz)⟩, KK, h.ob, h.og, h.op, h.ow, h.os, n0, h.t0⟩
theorem fs_blk {A : Array Value} {x : Nat} {T : TypeId} (h : FS base w b c f) (hx : w.heap[x]? = some (.cells A T (0, 0))) (hT : T ≠ 137) : ¬ b = x := by
  rcases h.2 with z | ⟨_, _, _, _, gg, A, z⟩
  · exact blk_ne (T1 := 137) z.fb hx (fun e => hT e.symm)
  · exact blk_ne (T1 := 137) z.fb hx (fun e => hT e.symm)
theorem fs_lt (h : FS base w b c f) : b < w.heap.size := by
  rcases h.2 with z | ⟨_, _, _, _, gg, A, z⟩
  · exact lt_of_blk z.fb
  · exact lt_of_blk z.fb
/-- A build's block is written. -/
theorem Fw.bb {A : Array Value} {x : Nat} (h : Fw base w0 w b gb m p r c g f cs cnt a) (hx : w.heap[x]? = some (.cells A 72 (0, 0))) (K : Kept [x] w w') (ox : w0.heap.size ≤ x) : Fw base w0 w' b gb m p r c g f cs cnt a := by
  have n1 := fs_blk h.st.fs hx (by decide)
  have n2 : ¬ gb = x := blk_ne (T1 := 60) h.st.gd hx (by decide)
  have n3 : ¬ m = x := blk_ne (T1 := 104) h.st.mm.st hx (by decide)
  have n4 : ¬ p = x := blk_ne (T1 := 133) h.st.mm.bk.st hx (by decide)
  have n5 : ¬ r = x := blk_ne (T1 := 25) h.st.mm.bk.row hx (by decide)
  have KK : Kept [] w0 w' := h.kp.then K (by simp; omega)
  exact ⟨⟨h.st.R, h.st.fs.kept K (by simp; omega) (fun g3 _ he => by
    obtain ⟨B, hB⟩ := he
    have n6 := blk_ne (T1 := 163) hB hx (by decide)
    simp; omega), h.st.gd.kept K (by simp; omega), h.st.mm.kept K (by simp; omega) (by simp; omega) (by simp; omega), h.t0.kept KK, h.st.fi, h.st.wd, h.st.u0, h.st.u1, h.st.g0, fun z hz => h.st.bs z (Nat.le_trans K.size hz)⟩, KK, h.ob, h.og, h.op, h.ow, h.os, h.n0, h.t0⟩
/-- A new find in the place of the one that was. -/
theorem Fw.renew {fb : Nat} {k : Int} (h : Fw base w0 w b gb m p r c g f cs cnt a) (F : FB w fb (ffV 73 fb) k 0 0 0 0 0 none 0 0) (ob : w0.heap.size ≤ fb) : Fw base w0 w fb gb m p r c g (fmS k) cs cnt a := by
  have h0 : 0 < w0.heap.size := lt_of_cell h.t0.1
  exact ⟨⟨h.st.R, ⟨by omega, Or.inl ⟨F, rfl⟩⟩, h.st.gd, h.st.mm, h.st.tb, fm_start h.st.R k, h.st.wd, h.st.u0, h.st.u1, h.st.g0, h.st.bs⟩, h.kp, ob, h.og, h.op, h.ow, h.os, h.n0, h.t0⟩
end
/-- A build, its find, its guard and the words, all of them made behind w0. -/
structure Bw (base : Nat → Prop) (w0 w : World) (b fb gb m p r : Nat) (c : Cfg) (g : Gs) (s : Bm) (cs : List Int) (cnt : Int) (a : Acc) : Prop where
  bb : BB w b fb s.h s.k s.tl (phB s b) s.lv s.w
  fw : Fw base w0 w fb gb m p r c g s.f cs cnt a
  bi : BI c s
  ob : w0.heap.size ≤ b
section
variable {base : Nat → Prop} {w0 w w' : World} {b fb gb m p r : Nat} {c : Cfg} {g : Gs} {s : Bm} {cs : List Int} {cnt : Int} {a : Acc}
theorem Bw.new (h : Bw base w0 w b fb gb m p r c g s cs cnt a) (k : Kept [] w w') : Bw base w0 w' b fb gb m p r c g s cs cnt a :=
  ⟨h.bb.kept k (by simp), h.fw.new k, h.bi, h.ob⟩
theorem Bw.nm (h : Bw base w0 w b fb gb m p r c g s cs cnt a) : (¬ b = m ∧ ¬ b = p ∧ ¬ b = r) ∧ ¬ b = fb ∧ ¬ b = gb := by
  have hB := h.bb
  exact ⟨⟨blk_ne (T1 := 72) hB h.fw.st.mm.st (by decide), blk_ne (T1 := 72) hB h.fw.st.mm.bk.st (by decide), blk_ne (T1 := 72) hB h.fw.st.mm.bk.row (by decide)⟩, fun e => fs_blk h.fw.st.fs hB (by decide) e.symm, blk_ne (T1 := 72) hB h.fw.st.gd (by decide)⟩
theorem Bw.lt (h : Bw base w0 w b fb gb m p r c g s cs cnt a) : b < w.heap.size := lt_of_blk h.bb
/-- What a step of a build leaves. -/
def BR (base : Nat → Prop) (w0 w w' : World) (b fb gb m p r : Nat) (c : Cfg) (g' : Gs) (s' : Bm) (cs' : List Int) (cnt' : Int) (a' : Acc) : Prop :=
  ∃ fb', (fb' = fb ∨ w.heap.size ≤ fb') ∧ Bw base w0 w' b fb' gb m p r c g' s' cs' cnt' a' ∧ FK base [b, fb, gb, p, r] w w'
theorem look_c {c : Cfg} (s : Bm) : decide (s.tl ≤ s.lv ∨ c.h ≤ s.lv ∨ (enV s.f.d s.f.ss s.lv ≠ 0 ∧ enV s.f.d s.f.ks s.lv = s.k)) = (s.look c).d := rfl
theorem ph_look {c : Cfg} (s : Bm) (b : Nat) : (if (s.look c).d = true then Value.nilFunc else ffV 95 b) = phB (s.look c) b := rfl
set_option maxHeartbeats 4000000 in
/-- A step of the find. -/
theorem bfind_any (h : Bw base w0 w b fb gb m p r c g s cs cnt a) (hd : s.d = false) (nx : s.nx = 0) (c1 : cnt < 4611686018427387904) :
    Calls Tryz.prog 46 #[.pointer (some ⟨b, 0, none⟩), .pointer (some ⟨m, 0, none⟩), .pointer (some ⟨gb, 0, none⟩)] w fun e w' => e = .returned (.tuple #[]) ∧ BR base w0 w w' b fb gb m p r c (bG c g s) (bF c cs cnt g s) (bC c cs g s) (bN cnt s) (bA c cs g s a) := by
  obtain ⟨e1, e2, e3⟩ := bF_0 (c := c) (cs := cs) (cnt := cnt) (g := g) hd nx
  have fd0 := h.bi.f0 hd nx
  have e4 : bN cnt s = cnt + 1 := if_neg (by rw [hd]; decide)
  have e5 : bA c cs g s a = fA c cs g s.f a := by unfold bA; rw [if_neg (by rw [hd]; decide), nx]; rfl
  have e6 : fN cnt s.f = cnt + 1 := fN_no fd0
  have BI' := h.bi.step h.fw.st.R h.fw.st.wd cnt g
  have SP := hidOf (h.fw.step c1)
  obtain ⟨⟨nm1, nm2, nm3⟩, nf, ng⟩ := h.nm
  have HB := hidOf h.bb
  have q0 := cell_of_blk h.bb (i := 0) rfl
  have HN := hidOf (show b ∉ [fb, gb, p, r] by simp; omega)
  have PH : phB s b = ffV 46 b := by unfold phB; rw [if_neg (by rw [hd]; decide), nx]; rfl
  have HOB := hidOf h.ob
  have hlt := h.bi.lt hd
  rw [e1] at BI' ⊢
  rw [e2, e3, e4, e5]
  rw [e6] at SP
  obtain ⟨F', hF'⟩ : ∃ F', F' = fF c cs cnt g s.f := ⟨_, rfl⟩
  rw [← hF'] at SP BI' ⊢
  clear hF' e1 e2 e3 e4 e5 e6 fd0
  obtain ⟨D, hD⟩ : ∃ D, F'.d = D := ⟨_, rfl⟩
  rw [hD] at BI' ⊢
  have HD := hidOf hD
  -- the answer, each way
  have FIN : Hid (∀ w', (e : Bm) → BB w' b fb e.h e.k e.tl (phB e b) e.lv e.w → Fw base w0 w' fb gb m p r c (fG c g s.f) e.f (fC c cs g s.f) (cnt + 1) (fA c cs g s.f a) → BI c e → FK base [b, fb, gb, p, r] w w' → BR base w0 w w' b fb gb m p r c (fG c g s.f) e (fC c cs g s.f) (cnt + 1) (fA c cs g s.f a)) := hidOf (fun w' e x y z k => ⟨fb, Or.inl rfl, ⟨x, y, z, HOB.out⟩, k⟩)
  generalize fG c g s.f = G at *
  generalize fC c cs g s.f = CC at *
  generalize fA c cs g s.f a = AA at *
  generalize hQ : (if D = true then ({ s with f := F' } : Bm).look c else { s with f := F' }) = Q at BI' ⊢
  have HBI := hidOf BI'
  have HQ := hidOf hQ
  have HPH := hidOf PH
  clear h hD BI' hQ nm1 nm2 nm3 nf ng PH hd nx
  go_enter Tryz.func46, Tryz.ntmps46
  go_wp2_with fail
  refine SP.out.mono ?_
  rintro e w1 ⟨rfl, Z, K1⟩
  have B1 : BB w1 b fb s.h s.k s.tl (phB s b) s.lv s.w := K1.blk HB.out (by decide) HN.out
  have q01 := cell_of_blk B1 (i := 0) rfl
  have HZ := hidOf (And.intro B1 (And.intro Z (show FK base [b, fb, gb, p, r] w w1 from K1.weaken (by simp))))
  clear B1 Z K1 SP q0
  have DN := hidOf (HZ.out.2.1.st.done)
  rw [HD.out] at DN
  go_wp2_with fail
  refine DN.out.mono ?_
  rintro e w2 ⟨rfl, rfl⟩
  cases D with
  | false =>
    go_wp2
    go_end0
    obtain ⟨B1, Z, K1⟩ := HZ.out
    refine ⟨rfl, ?_⟩
    have eq := HQ.out
    rw [if_neg (by decide)] at eq
    have bi := HBI.out
    rw [← eq] at bi ⊢
    refine FIN.out _ _ ?_ Z bi K1
    exact B1
  | true =>
    have LK := hidOf (blook_any base b fb m p r c F' s.h s.k s.tl (phB s b) s.lv s.w CC (cnt + 1) AA w2 HZ.out.1 HZ.out.2.1.st.sf HZ.out.2.1.st.mm (by omega))
    go_wp2_with fail
    refine LK.out.mono ?_
    rintro e w3 ⟨rfl, B3, K3⟩
    have HY := hidOf (And.intro B3 K3)
    clear B3 K3 LK DN
    go_wp2
    go_end0
    obtain ⟨B1, Z, K1⟩ := HZ.out
    obtain ⟨B3, K3⟩ := HY.out
    refine ⟨rfl, ?_⟩
    have eq := HQ.out
    first | rw [if_pos trivial] at eq | rw [if_pos rfl] at eq
    have bi := HBI.out
    rw [← eq] at bi ⊢
    exact FIN.out _ _ B3 (Z.bb B1 K3 HOB.out) bi (K1.then (FK.of (K3.weaken (by simp))))
theorem bown_eq (h : s.d = false) (e : s.nx = 1) : phB s b = ffV 95 b := by unfold phB; rw [if_neg (by rw [h]; decide), e]; rfl
theorem bset_eq (h : s.d = false) (e : s.nx = 2) : phB s b = ffV 111 b := by unfold phB; rw [if_neg (by rw [h]; decide), e]; rfl
theorem blink_eq (h : s.d = false) (e : s.nx = 3) : phB s b = ffV 110 b := by unfold phB; rw [if_neg (by rw [h]; decide), e]; rfl
set_option maxHeartbeats 4000000 in
/-- The node's own word is asked for. -/
theorem bown_any (h : Bw base w0 w b fb gb m p r c g s cs cnt a) (hd : s.d = false) (nx : s.nx = 1) (c1 : cnt < 4611686018427387904) (V : Value) :
    Calls Tryz.prog 95 #[.pointer (some ⟨b, 0, none⟩), .pointer (some ⟨m, 0, none⟩), V] w fun e w' => e = .returned (.tuple #[]) ∧ BR base w0 w w' b fb gb m p r c (bG c g s) (bF c cs cnt g s) (bC c cs g s) (bN cnt s) (bA c cs g s a) := by
  obtain ⟨e1, e2, e3⟩ := bF_1 (c := c) (cs := cs) (cnt := cnt) (g := g) hd nx
  have e4 : bN cnt s = cnt + 1 := if_neg (by rw [hd]; decide)
  have e5 : bA c cs g s a = acV cs 1 (clV' c (ixV s.h) (6 + s.lv)) (plainV s.h) 0 0 := by unfold bA; rw [if_neg (by rw [hd]; decide), nx]; rfl
  have BI' := h.bi.step h.fw.st.R h.fw.st.wd cnt g
  have f1 := h.bi.f1 hd (by omega)
  have l1 := h.bi.l1
  have h1 := h.fw.st.R.h1
  have hW := h.bi.hW
  have wd := h.fw.st.wd
  have c0 := h.fw.n0
  have LD := hidOf (fun (W : World) (k : Kept [] w W) => (mload_any m p r c cs cnt a s.h (6 + s.lv) W (h.fw.st.mm.new k) (h.fw.st.tb.kept k) hW.1 hW.2 c0 c1).mono fun _ _ z => And.intro z.1 (And.intro z.2.1 ((k.weaken (m := [p, r]) (by simp)).trans z.2.2)))
  have FD := hidOf (fun (W : World) (k : Kept [] w W) => bnext_any b fb s.h s.k s.tl (phB s b) s.lv s.w W (h.bb.kept k (by simp)) (by omega) (by omega))
  have eo : (acV cs 1 (clV' c (ixV s.h) (6 + s.lv)) (plainV s.h) 0 0).o = s.own c cs := ld_o cs _ _
  have ew : isW (s.own c cs) := fd_word wd _ _
  rw [eo, clk_load] at LD
  obtain ⟨⟨nm1, nm2, nm3⟩, nf, ng⟩ := h.nm
  have HNM := hidOf (And.intro nm1 (And.intro nm2 (And.intro nm3 (And.intro nf ng))))
  have HBB := hidOf h.bb
  have q1 := cell_of_blk h.bb (i := 1) rfl
  have MM := hidOf (fun (w' : World) (M : Mm w' m p r c cs (cnt + 1) (acV cs 1 (clV' c (ixV s.h) (6 + s.lv)) (plainV s.h) 0 0)) (K : Kept [p, r] w w') => h.fw.mm M K wd (by omega))
  rw [e1] at BI' ⊢
  rw [e2, e3, e4, e5]
  clear e1 e2 e3 e4 e5 eo
  generalize acV cs 1 (clV' c (ixV s.h) (6 + s.lv)) (plainV s.h) 0 0 = A at *
  obtain ⟨X, hX⟩ : ∃ X, X = s.own c cs := ⟨_, rfl⟩
  rw [← hX] at LD ew BI' ⊢
  obtain ⟨SU, hSU⟩ : ∃ SU, SU = s.su := ⟨_, rfl⟩
  rw [← hSU] at BI' ⊢
  have SUC := hidOf (fun (W : World) (F : Fw base w0 W fb gb m p r c g s.f cs (cnt + 1) A) => (tsucc_any F.st.sf s.lv))
  rw [show enV s.f.d s.f.ss s.lv = SU from hSU.symm] at SUC
  obtain ⟨B, hB⟩ : ∃ B, B = mkB X := ⟨_, rfl⟩
  rw [← hB] at BI' ⊢
  obtain ⟨Q, hQ⟩ : ∃ Q : Bm, Q = { s with w := X, nx := if X = SU then 3 else 2, d := B } := ⟨_, rfl⟩
  rw [← hQ] at BI' ⊢
  have HQ := hidOf hQ
  have HB := hidOf hB
  clear hQ hB
  have HBI := hidOf BI'
  have HOB := hidOf h.ob
  have HS0 : Hid (∀ W' : World, Kept [p, r] w W' → W'.cell? ⟨b, 1, none⟩ = some (.int .u64 s.h)) := by
    intro W' k
    have := HNM.out
    exact cell_of_blk (k.blk HBB.out (by simp; omega)) (i := 1) rfl
  have HS3 : Hid (∀ W' : World, BB W' b fb s.h s.k s.tl (phB s b) s.lv s.w → (W'.setCell ⟨b, 6, none⟩ (.int .u64 X)).cell? ⟨b, 1, none⟩ = some (.int .u64 s.h)) := fun W' z => cell_of_blk (z.set6 X) (i := 1) rfl
  clear h BI' hX hSU nm1 nm2 nm3 nf ng hd nx f1 l1 h1 hW wd c0 c1
  go_enter Tryz.func95, Tryz.ntmps95
  go_wp2_with fail
  go_region_held3 (fun W' => W'.cell? ⟨b, 1, none⟩ = some (.int .u64 s.h))
      (first | exact HS0.out _ (by assumption) | exact HS3.out _ (by assumption) | exact HS0.out _ (Kept.weaken (m := [p, r]) (by assumption) (by simp)) | exact HS0.out _ (Kept.refl _ _).drew | exact HS0.out _ (Kept.refl _ _))
      (first
        | (go_at_call 109; refine (FD.out _ (by first | assumption | exact (Kept.refl _ _).drew)).mono ?_; rintro e w5 ⟨rfl, rfl⟩)
        | (go_at_call 25; refine (LD.out _ (by first | assumption | exact (Kept.refl _ _).drew)).mono ?_; rintro e w7 ⟨rfl, M7, K7⟩
           have Z7 := HBB.out.kept K7 (by have := HNM.out; simp; omega)
           have z6 := cell_of_blk Z7 (i := 6) rfl
           have zf7 := free_of_blk Z7
           have zl7 := lt_of_blk Z7))
  have HX7 := hidOf (And.intro Z7 (And.intro (MM.out _ M7 K7) K7))
  clear M7 Z7 K7 z6 zf7 zl7 LD FD HS0 HS3 q1 MM
  go_upto_region 2 with (fail)
  refine gen_world (fun W => BB W b fb s.h s.k s.tl (phB s b) s.lv X ∧ Fw base w0 W fb gb m p r c g s.f cs (cnt + 1) A ∧ FK base [b, fb, gb, p, r] w W) ?_ ?_
  · obtain ⟨Z, F, K7⟩ := HX7.out
    have ks := (Kept.refl [b] w7).setCell (p := ⟨b, 6, none⟩) (Or.inl (by simp)) (.int .u64 X)
    exact ⟨Z.set6 X, F.bb Z ks HOB.out, FK.of ((K7.weaken (m := [b, fb, gb, p, r]) (by simp; try omega)).then ks (by simp))⟩
  clear HX7 HBB
  rintro W ⟨Z, F, KK⟩
  have z6 := cell_of_blk Z (i := 6) rfl
  have MK := hidOf (marked_any X W F.st.tb ew.1 ew.2)
  have HZ := hidOf (And.intro Z (And.intro F KK))
  clear Z F KK
  rw [← HB.out] at MK
  go_wp2_with fail
  refine MK.out.mono ?_
  rintro e w3 ⟨rfl, K3⟩
  have HY := hidOf (And.intro (HZ.out.1.kept K3 (by simp)) (And.intro (HZ.out.2.1.new K3) (HZ.out.2.2.then (FK.of (K3.weaken (by simp))))))
  clear HZ MK K3 z6
  have z4 := cell_of_blk HY.out.1 (i := 4) rfl
  have zf := free_of_blk HY.out.1
  have zl := lt_of_blk HY.out.1
  have FIN : Hid (∀ (v : Value), phB Q b = v → BR base w0 w (w3.setCell ⟨b, 4, none⟩ v) b fb gb m p r c g Q cs (cnt + 1) A) := hidOf (fun v hv => by
    obtain ⟨Z, F, KK⟩ := HY.out
    have ks := (Kept.refl [b] w3).setCell (p := ⟨b, 4, none⟩) (Or.inl (by simp)) v
    have hq := HQ.out
    refine ⟨fb, Or.inl rfl, ⟨?_, ?_, HBI.out, HOB.out⟩, KK.then (FK.of (ks.weaken (by simp)))⟩
    · rw [hv, hq]; exact Z.set4 v
    · rw [hq]; exact F.bb Z ks HOB.out)
  cases B with
  | true =>
    go_wp2
    go_end0
    refine ⟨rfl, FIN.out .nilFunc ?_⟩
    unfold phB; rw [if_pos (by rw [HQ.out])]
  | false =>
    have SC := hidOf (fun (W : World) (k : Kept [] w3 W) => (SUC.out W (HY.out.2.1.new k)).mono fun _ _ z => And.intro z.1 (k.trans z.2))
    have HS0 : Hid (∀ W' : World, Kept [] w3 W' → W'.cell? ⟨b, 0, none⟩ = some (.pointer (some ⟨fb, 0, none⟩)) ∧ W'.cell? ⟨b, 5, none⟩ = some (.int .i64 s.lv) ∧ W'.cell? ⟨b, 6, none⟩ = some (.int .u64 X)) := by
      intro W' k
      have z := HY.out.1.kept k (by simp)
      exact ⟨cell_of_blk z (i := 0) rfl, cell_of_blk z (i := 5) rfl, cell_of_blk z (i := 6) rfl⟩
    go_wp2_with fail
    clear z4 zf zl
    go_region_held3 (fun W' => W'.cell? ⟨b, 0, none⟩ = some (.pointer (some ⟨fb, 0, none⟩)) ∧ W'.cell? ⟨b, 5, none⟩ = some (.int .i64 s.lv) ∧ W'.cell? ⟨b, 6, none⟩ = some (.int .u64 X))
      (first | exact HS0.out _ (by assumption) | exact HS0.out _ (Kept.refl _ _).drew)
      (first | (go_at_call 107; refine (SC.out _ (by first | assumption | exact (Kept.refl _ _).drew)).mono ?_; rintro e w5 ⟨rfl, K5⟩))
    have HK5 := hidOf K5
    have Z5 := HY.out.1.kept K5 (by simp)
    have z4 := cell_of_blk Z5 (i := 4) rfl
    have zf := free_of_blk Z5
    have zl := lt_of_blk Z5
    have FIN2 : Hid (∀ (v : Value), phB Q b = v → BR base w0 w (w5.setCell ⟨b, 4, none⟩ v) b fb gb m p r c g Q cs (cnt + 1) A) := hidOf (fun v hv => by
      obtain ⟨Z, F, KK⟩ := HY.out
      have Z := Z.kept HK5.out (by simp)
      have F := F.new HK5.out
      have ks := (Kept.refl [b] w5).setCell (p := ⟨b, 4, none⟩) (Or.inl (by simp)) v
      have hq := HQ.out
      refine ⟨fb, Or.inl rfl, ⟨?_, ?_, HBI.out, HOB.out⟩, (KK.then (FK.of (HK5.out.weaken (by simp)))).then (FK.of (ks.weaken (by simp)))⟩
      · rw [hv, hq]; exact Z.set4 v
      · rw [hq]; exact F.bb Z ks HOB.out)
    clear K5 SC HS0 SUC FIN
    by_cases hx : X = SU
    · have hxb : (X == SU) = true := by simp [hx]
      have HXE := hidOf hx
      clear hx Z5
      go_wp2
      go_end0
      refine ⟨rfl, FIN2.out (ffV 110 b) ?_⟩
      rw [HQ.out, HXE.out, if_pos rfl]; rfl
    · have hxb : (X == SU) = false := by simp [hx]
      have HXE := hidOf hx
      clear hx Z5
      go_wp2
      go_end0
      refine ⟨rfl, FIN2.out (ffV 111 b) ?_⟩
      rw [HQ.out, if_neg HXE.out]; rfl
end
end K
end Go.Proofs.YtkjjieklccbmoaaGreatDoor
namespace Go.Proofs.YtkjjieklccbmoaaGreatDoor
open Go.RowKit (Grown Hid Below)
open Go.Deep
namespace K
set_option maxRecDepth 100000
section
variable {base : Nat → Prop} {w0 w w' : World} {b fb gb m p r : Nat} {c : Cfg} {g : Gs} {s : Bm} {cs : List Int} {cnt : Int} {a : Acc}
set_option maxHeartbeats 4000000 in
/-- The node's own word is swapped. -/
theorem bset_any (h : Bw base w0 w b fb gb m p r c g s cs cnt a) (hd : s.d = false) (nx : s.nx = 2) (c1 : cnt < 4611686018427387904) (V : Value) :
    Calls Tryz.prog 111 #[.pointer (some ⟨b, 0, none⟩), .pointer (some ⟨m, 0, none⟩), V] w fun e w' => e = .returned (.tuple #[]) ∧ BR base w0 w w' b fb gb m p r c (bG c g s) (bF c cs cnt g s) (bC c cs g s) (bN cnt s) (bA c cs g s a) := by
  obtain ⟨e1, e2, e3⟩ := bF_2 (c := c) (cs := cs) (cnt := cnt) (g := g) hd nx
  have e4 : bN cnt s = cnt + 1 := if_neg (by rw [hd]; decide)
  have e5 : bA c cs g s a = s.aS c cs := by unfold bA; rw [if_neg (by rw [hd]; decide), nx]; rfl
  have BI' := h.bi.step h.fw.st.R h.fw.st.wd cnt g
  have WD' := bC_wds (g := g) h.bi h.fw.st.wd
  have l1 := h.bi.l1
  have l2 := h.bi.l2
  have h1 := h.fw.st.R.h1
  have hW := h.bi.hW
  have c0 := h.fw.n0
  have SW := hidOf (fun (W : World) (k : Kept [] w W) => (mswap_any m p r c cs cnt a s.h (6 + s.lv) s.w s.su W (h.fw.st.mm.new k) (h.fw.st.tb.kept k) hW.1 hW.2 c0 c1).mono fun _ _ z => And.intro z.1 (And.intro z.2.1 ((k.weaken (m := [p, r]) (by simp)).trans z.2.2)))
  have FD := hidOf (fun (W : World) (k : Kept [] w W) => bnext_any b fb s.h s.k s.tl (phB s b) s.lv s.w W (h.bb.kept k (by simp)) (by omega) (by omega))
  have SC := hidOf (fun (W : World) (k : Kept [] w W) => (tsucc_any (h.fw.st.sf.new k) s.lv).mono fun _ _ z => And.intro z.1 (k.trans z.2))
  obtain ⟨⟨nm1, nm2, nm3⟩, nf, ng⟩ := h.nm
  have HNM := hidOf (And.intro nm1 (And.intro nm2 (And.intro nm3 (And.intro nf ng))))
  have HBB := hidOf h.bb
  rw [e1] at BI' ⊢
  rw [e2] at WD' ⊢
  rw [e3, e4, e5]
  have MM := hidOf (fun (w' : World) (M : Mm w' m p r c (clV cs 3 (clV' c (ixV s.h) (6 + s.lv)) s.w s.su) (cnt + 1) (acV cs 3 (clV' c (ixV s.h) (6 + s.lv)) (plainV s.h) s.w s.su)) (K : Kept [p, r] w w') => h.fw.mm M K WD' (by omega))
  clear e1 e2 e3 e4 e5 WD'
  obtain ⟨A, hA⟩ : ∃ A, A = acV cs 3 (clV' c (ixV s.h) (6 + s.lv)) (plainV s.h) s.w s.su := ⟨_, rfl⟩
  rw [show s.aS c cs = A from hA.symm] at BI' ⊢
  rw [← hA] at SW MM
  generalize clV cs 3 (clV' c (ixV s.h) (6 + s.lv)) s.w s.su = CC at *
  obtain ⟨SU, hSU⟩ : ∃ SU, SU = s.su := ⟨_, rfl⟩
  rw [← hSU] at SW
  rw [show enV s.f.d s.f.ss s.lv = SU from hSU.symm] at SC
  obtain ⟨B, hB⟩ : ∃ B, A.d = B := ⟨_, rfl⟩
  rw [hB] at BI' SW ⊢
  obtain ⟨Q, hQ⟩ : ∃ Q : Bm, Q = { s with nx := if B = true then 3 else 1 } := ⟨_, rfl⟩
  rw [← hQ] at BI' ⊢
  have HQ := hidOf hQ
  have HD := hidOf hd
  have HBI := hidOf BI'
  have HOB := hidOf h.ob
  have HS0 : Hid (∀ W' : World, Kept [p, r] w W' → W'.cell? ⟨b, 0, none⟩ = some (.pointer (some ⟨fb, 0, none⟩)) ∧ W'.cell? ⟨b, 1, none⟩ = some (.int .u64 s.h) ∧ W'.cell? ⟨b, 5, none⟩ = some (.int .i64 s.lv) ∧ W'.cell? ⟨b, 6, none⟩ = some (.int .u64 s.w)) := by
    intro W' k
    have := HNM.out
    have z := k.blk HBB.out (by simp; omega)
    exact ⟨cell_of_blk z (i := 0) rfl, cell_of_blk z (i := 1) rfl, cell_of_blk z (i := 5) rfl, cell_of_blk z (i := 6) rfl⟩
  clear h BI' hA hSU hQ hB nm1 nm2 nm3 nf ng hd nx l1 l2 h1 hW c0 c1
  go_enter Tryz.func111, Tryz.ntmps111
  go_wp2_with fail
  go_region_held3 (fun W' => W'.cell? ⟨b, 0, none⟩ = some (.pointer (some ⟨fb, 0, none⟩)) ∧ W'.cell? ⟨b, 1, none⟩ = some (.int .u64 s.h) ∧ W'.cell? ⟨b, 5, none⟩ = some (.int .i64 s.lv) ∧ W'.cell? ⟨b, 6, none⟩ = some (.int .u64 s.w))
    (first | exact HS0.out _ (by assumption) | exact HS0.out _ (Kept.weaken (m := [p, r]) (by assumption) (by simp)) | exact HS0.out _ (Kept.refl _ _).drew | exact HS0.out _ (Kept.refl _ _))
    (first
      | (go_at_call 109; refine (FD.out _ (by first | assumption | exact (Kept.refl _ _).drew)).mono ?_; rintro e w5 ⟨rfl, rfl⟩)
      | (go_at_call 107; refine (SC.out _ (by first | assumption | exact (Kept.refl _ _).drew)).mono ?_; rintro e w6 ⟨rfl, K6⟩)
      | (go_at_call 117; refine (SW.out _ (by first | assumption | exact (Kept.refl _ _).drew)).mono ?_; rintro e w7 ⟨rfl, M7, K7⟩))
  all_goals
    have Z := HBB.out.kept K7 (by have := HNM.out; simp; omega)
    have z4 := cell_of_blk Z (i := 4) rfl
    have zf := free_of_blk Z
    have zl := lt_of_blk Z
    have HX := hidOf (And.intro Z (And.intro (MM.out _ M7 K7) K7))
    have FIN : Hid (∀ (v : Value), phB Q b = v → BR base w0 w (w7.setCell ⟨b, 4, none⟩ v) b fb gb m p r c g Q CC (cnt + 1) A) := hidOf (fun v hv => by
      obtain ⟨Z, F, KK⟩ := HX.out
      have ks := (Kept.refl [b] w7).setCell (p := ⟨b, 4, none⟩) (Or.inl (by simp)) v
      have hq := HQ.out
      refine ⟨fb, Or.inl rfl, ⟨?_, ?_, HBI.out, HOB.out⟩, (FK.of (KK.weaken (m := [b, fb, gb, p, r]) (by simp; try omega))).then (FK.of (ks.weaken (by simp)))⟩
      · rw [hv, hq]; exact Z.set4 v
      · rw [hq]; exact F.bb Z ks HOB.out)
    clear Z M7 K7 SW SC FD HS0 HBB MM
    cases B with
    | true =>
      go_wp2
      refine bodyPost_ret (v := .tuple #[]) (by simp [results, Tryz.results111, go_sem]) rfl ⟨rfl, FIN.out (ffV 110 b) ?_⟩
      rw [HQ.out]; unfold phB; rw [if_neg (by rw [show ({ s with nx := if true = true then 3 else 1 } : Bm).d = s.d from rfl, HD.out]; decide)]; rfl
    | false =>
      go_wp2
      go_end0
      refine ⟨rfl, FIN.out (ffV 95 b) ?_⟩
      rw [HQ.out]; unfold phB; rw [if_neg (by rw [show ({ s with nx := if false = true then 3 else 1 } : Bm).d = s.d from rfl, HD.out]; decide)]; rfl
set_option maxHeartbeats 4000000 in
/-- The node is linked, if nothing has changed there. -/
theorem blink_any (h : Bw base w0 w b fb gb m p r c g s cs cnt a) (hd : s.d = false) (nx : s.nx = 3) (c1 : cnt < 4611686018427387904) (V : Value) :
    Calls Tryz.prog 110 #[.pointer (some ⟨b, 0, none⟩), .pointer (some ⟨m, 0, none⟩), V] w fun e w' => e = .returned (.tuple #[]) ∧ BR base w0 w w' b fb gb m p r c (bG c g s) (bF c cs cnt g s) (bC c cs g s) (bN cnt s) (bA c cs g s a) := by
  obtain ⟨e1, e2, e3⟩ := bF_3 (c := c) (cs := cs) (cnt := cnt) (g := g) hd nx
  have e4 : bN cnt s = cnt + 1 := if_neg (by rw [hd]; decide)
  have e5 : bA c cs g s a = s.aL c cs := by unfold bA; rw [if_neg (by rw [hd]; decide), nx]; rfl
  have BI' := h.bi.step h.fw.st.R h.fw.st.wd cnt g
  have WD' := bC_wds (g := g) h.bi h.fw.st.wd
  have l1 := h.bi.l1
  have l2 := h.bi.l2
  have lt := h.bi.lt hd
  have h1 := h.fw.st.R.h1
  have hW := h.bi.prW
  have c0 := h.fw.n0
  have SW := hidOf (fun (W : World) (k : Kept [] w W) => (mswap_any m p r c cs cnt a s.pr (6 + s.lv) s.su s.h W (h.fw.st.mm.new k) (h.fw.st.tb.kept k) hW.1 hW.2 c0 c1).mono fun _ _ z => And.intro z.1 (And.intro z.2.1 ((k.weaken (m := [p, r]) (by simp)).trans z.2.2)))
  have FD := hidOf (fun (W : World) (k : Kept [] w W) => bnext_any b fb s.h s.k s.tl (phB s b) s.lv s.w W (h.bb.kept k (by simp)) (by omega) (by omega))
  have SC := hidOf (fun (W : World) (k : Kept [] w W) => (tsucc_any (h.fw.st.sf.new k) s.lv).mono fun _ _ z => And.intro z.1 (k.trans z.2))
  have PC := hidOf (fun (W : World) (k : Kept [] w W) => (tpred_any (h.fw.st.sf.new k) s.lv).mono fun _ _ z => And.intro z.1 (k.trans z.2))
  obtain ⟨⟨nm1, nm2, nm3⟩, nf, ng⟩ := h.nm
  have HNM := hidOf (And.intro nm1 (And.intro nm2 (And.intro nm3 (And.intro nf ng))))
  have HBB := hidOf h.bb
  rw [e1] at BI' ⊢
  rw [e2] at WD' ⊢
  rw [e3, e4, e5]
  have MM := hidOf (fun (w' : World) (M : Mm w' m p r c (clV cs 3 (clV' c (ixV s.pr) (6 + s.lv)) s.su s.h) (cnt + 1) (acV cs 3 (clV' c (ixV s.pr) (6 + s.lv)) (plainV s.pr) s.su s.h)) (K : Kept [p, r] w w') => h.fw.mm M K WD' (by omega))
  clear e1 e2 e3 e4 e5 WD'
  obtain ⟨A, hA⟩ : ∃ A, A = acV cs 3 (clV' c (ixV s.pr) (6 + s.lv)) (plainV s.pr) s.su s.h := ⟨_, rfl⟩
  rw [show s.aL c cs = A from hA.symm] at BI' ⊢
  rw [← hA] at SW MM
  generalize clV cs 3 (clV' c (ixV s.pr) (6 + s.lv)) s.su s.h = CC at *
  obtain ⟨SU, hSU⟩ : ∃ SU, SU = s.su := ⟨_, rfl⟩
  obtain ⟨PR, hPR⟩ : ∃ PR, PR = s.pr := ⟨_, rfl⟩
  rw [← hSU, ← hPR] at SW
  rw [show enV s.f.d s.f.ss s.lv = SU from hSU.symm] at SC
  rw [show enV s.f.d s.f.ps s.lv = PR from hPR.symm] at PC
  obtain ⟨B, hB⟩ : ∃ B, A.d = B := ⟨_, rfl⟩
  rw [hB] at BI' SW ⊢
  obtain ⟨Q, hQ⟩ : ∃ Q : Bm, Q = if B = true then ({ s with lv := s.lv + 1 } : Bm).look c else s.anew := ⟨_, rfl⟩
  rw [← hQ] at BI' ⊢
  have HQ := hidOf hQ
  have HD := hidOf hd
  have HBI := hidOf BI'
  have HOB := hidOf h.ob
  have HS0 : Hid (∀ W' : World, Kept [p, r] w W' → W'.cell? ⟨b, 0, none⟩ = some (.pointer (some ⟨fb, 0, none⟩)) ∧ W'.cell? ⟨b, 1, none⟩ = some (.int .u64 s.h) ∧ W'.cell? ⟨b, 5, none⟩ = some (.int .i64 s.lv)) := by
    intro W' k
    have := HNM.out
    have z := k.blk HBB.out (by simp; omega)
    exact ⟨cell_of_blk z (i := 0) rfl, cell_of_blk z (i := 1) rfl, cell_of_blk z (i := 5) rfl⟩
  have HL := hidOf (And.intro l1 (And.intro l2 (And.intro lt h1)))
  clear h BI' hA hSU hPR hQ hB nm1 nm2 nm3 nf ng hd nx l1 l2 lt h1 hW c0 c1
  go_enter Tryz.func110, Tryz.ntmps110
  go_wp2_with fail
  go_region_held3 (fun W' => W'.cell? ⟨b, 0, none⟩ = some (.pointer (some ⟨fb, 0, none⟩)) ∧ W'.cell? ⟨b, 1, none⟩ = some (.int .u64 s.h) ∧ W'.cell? ⟨b, 5, none⟩ = some (.int .i64 s.lv))
    (first | exact HS0.out _ (by assumption) | exact HS0.out _ (Kept.weaken (m := [p, r]) (by assumption) (by simp)) | exact HS0.out _ (Kept.refl _ _).drew | exact HS0.out _ (Kept.refl _ _))
    (first
      | (go_at_call 109; refine (FD.out _ (by first | assumption | exact (Kept.refl _ _).drew)).mono ?_; rintro e w5 ⟨rfl, rfl⟩)
      | (go_at_call 118; refine (PC.out _ (by first | assumption | exact (Kept.refl _ _).drew)).mono ?_; rintro e w8 ⟨rfl, K8⟩)
      | (go_at_call 107; refine (SC.out _ (by first | assumption | exact (Kept.refl _ _).drew)).mono ?_; rintro e w6 ⟨rfl, K6⟩)
      | (go_at_call 117; refine (SW.out _ (by first | assumption | exact (Kept.refl _ _).drew)).mono ?_; rintro e w7 ⟨rfl, M7, K7⟩))
  all_goals
    have Z := HBB.out.kept K7 (by have := HNM.out; simp; omega)
    have HX := hidOf (And.intro Z (And.intro (MM.out _ M7 K7) (show FK base [b, fb, gb, p, r] w w7 from FK.of (K7.weaken (by simp)))))
    clear Z M7 K7 SW SC PC FD HS0 HBB MM
    cases B with
    | false =>
      have AN := hidOf (banew_any b _ _ _ _ _ _ _ w7 HX.out.1)
      go_wp2_with fail
      refine AN.out.mono ?_
      rintro e w8 ⟨fb2, rfl, hfb, B8, F8, K8⟩
      have HY := hidOf (And.intro hfb (And.intro B8 (And.intro F8 K8)))
      clear AN hfb B8 F8 K8
      go_wp2
      refine bodyPost_ret (v := .tuple #[]) (by simp [results, Tryz.results110, go_sem]) rfl ⟨rfl, ?_⟩
      obtain ⟨Z, F, KK⟩ := HX.out
      obtain ⟨hfb, B8, F8, K8⟩ := HY.out
      have eq := HQ.out
      have bi := HBI.out
      rw [if_neg (by decide)] at eq
      rw [eq] at bi ⊢
      have F9 := (F.bb Z K8 HOB.out).renew F8 (by have := F.kp.size; omega)
      refine ⟨fb2, Or.inr (by have := KK.size; omega), ⟨?_, F9, bi, HOB.out⟩, KK.then (FK.of (K8.weaken (by simp)))⟩
      rw [show phB s.anew b = ffV 46 b from by unfold phB; rw [if_neg (by rw [show s.anew.d = s.d from rfl, HD.out]; decide)]; rfl]
      exact B8
    | true =>
      have z5 := cell_of_blk HX.out.1 (i := 5) rfl
      have zf := free_of_blk HX.out.1
      have zl := lt_of_blk HX.out.1
      have hl0 : 0 ≤ s.lv ∧ s.lv ≤ 6 := by have := HL.out; omega
      go_upto_region 3 with (fail)
      refine gen_world (fun W => BB W b fb s.h s.k s.tl (phB s b) (s.lv + 1) s.w ∧ Fw base w0 W fb gb m p r c g s.f CC (cnt + 1) A ∧ FK base [b, fb, gb, p, r] w W) ?_ ?_
      · obtain ⟨Z, F, KK⟩ := HX.out
        have e1 : IntKind.i64.wrap (s.lv + 1) = s.lv + 1 := by rw [IntKind.wrap_i64]; omega
        have ks := (Kept.refl [b] w7).setCell (p := ⟨b, 5, none⟩) (Or.inl (by simp)) (.int .i64 (s.lv + 1))
        try rw [e1]
        exact ⟨Z.set5 (s.lv + 1), F.bb Z ks HOB.out, KK.then (FK.of (ks.weaken (by simp)))⟩
      clear HX z5 zf zl
      rintro W ⟨Z, F, KK⟩
      have LK := hidOf (blook_any base b fb m p r c s.f s.h s.k s.tl (phB s b) (s.lv + 1) s.w CC (cnt + 1) A W Z F.st.sf F.st.mm (by have := HL.out; omega))
      have HX := hidOf (And.intro Z (And.intro F KK))
      clear Z F KK
      go_wp2_with fail
      refine LK.out.mono ?_
      rintro e w8 ⟨rfl, B8, K8⟩
      have HY := hidOf (And.intro B8 K8)
      clear LK B8 K8
      go_wp2
      go_end0
      obtain ⟨Z, F, KK⟩ := HX.out
      obtain ⟨B8, K8⟩ := HY.out
      have eq := HQ.out
      have bi := HBI.out
      first | rw [if_pos trivial] at eq | rw [if_pos rfl] at eq
      rw [eq] at bi ⊢
      exact ⟨rfl, fb, Or.inl rfl, ⟨B8, F.bb Z K8 HOB.out, bi, HOB.out⟩, KK.then (FK.of (K8.weaken (by simp)))⟩
theorem BR.of_eq {g' : Gs} {s' : Bm} {cs' : List Int} {cnt' : Int} {a' : Acc} (h : BR base w0 w w' b fb gb m p r c g' s' cs' cnt' a') : w.heap.size ≤ w'.heap.size := by obtain ⟨_, _, _, k⟩ := h; exact k.size
set_option maxHeartbeats 4000000 in
/-- A step of a build whose machine says what comes next. -/
theorem bstep_find (h : Bw base w0 w b fb gb m p r c g s cs cnt a) (hd : s.d = false) (ph : phB s b = ffV 46 b) (R : World → Prop)
    (hc : ∀ W, W = w → Calls Tryz.prog 46 #[.pointer (some ⟨b, 0, none⟩), .pointer (some ⟨m, 0, none⟩), .pointer (some ⟨gb, 0, none⟩)] W fun e w' => e = .returned (.tuple #[]) ∧ R w') :
    Calls Tryz.prog 11 #[.pointer (some ⟨b, 0, none⟩), .pointer (some ⟨m, 0, none⟩), .pointer (some ⟨gb, 0, none⟩)] w fun e w' => e = .returned (.tuple #[]) ∧ R w' := by
  have DN := hidOf (bdone_any b fb s w h.bb)
  rw [hd] at DN
  have B := h.bb
  rw [ph] at B
  have q4 := cell_of_blk B (i := 4) rfl
  unfold ffV at q4
  have HC := hidOf (hc w rfl)
  clear hc B h hd ph
  go_enter Tryz.func11, Tryz.ntmps11
  go_wp2_with fail
  refine DN.out.mono ?_
  rintro e w1 ⟨rfl, rfl⟩
  go_wp2_with fail
  refine HC.out.mono ?_
  rintro e w2 ⟨rfl, X⟩
  have HX := hidOf X
  clear HC DN X q4
  go_wp2
  go_end0
  exact ⟨rfl, HX.out⟩
set_option maxHeartbeats 4000000 in
/-- A step of a build whose machine says what comes next. -/
theorem bstep_own (h : Bw base w0 w b fb gb m p r c g s cs cnt a) (hd : s.d = false) (ph : phB s b = ffV 95 b) (R : World → Prop)
    (hc : ∀ W, W = w → Calls Tryz.prog 95 #[.pointer (some ⟨b, 0, none⟩), .pointer (some ⟨m, 0, none⟩), .pointer (some ⟨gb, 0, none⟩)] W fun e w' => e = .returned (.tuple #[]) ∧ R w') :
    Calls Tryz.prog 11 #[.pointer (some ⟨b, 0, none⟩), .pointer (some ⟨m, 0, none⟩), .pointer (some ⟨gb, 0, none⟩)] w fun e w' => e = .returned (.tuple #[]) ∧ R w' := by
  have DN := hidOf (bdone_any b fb s w h.bb)
  rw [hd] at DN
  have B := h.bb
  rw [ph] at B
  have q4 := cell_of_blk B (i := 4) rfl
  unfold ffV at q4
  have HC := hidOf (hc w rfl)
  clear hc B h hd ph
  go_enter Tryz.func11, Tryz.ntmps11
  go_wp2_with fail
  refine DN.out.mono ?_
  rintro e w1 ⟨rfl, rfl⟩
  go_wp2_with fail
  refine HC.out.mono ?_
  rintro e w2 ⟨rfl, X⟩
  have HX := hidOf X
  clear HC DN X q4
  go_wp2
  go_end0
  exact ⟨rfl, HX.out⟩
set_option maxHeartbeats 4000000 in
/-- A step of a build whose machine says what comes next. -/
theorem bstep_set (h : Bw base w0 w b fb gb m p r c g s cs cnt a) (hd : s.d = false) (ph : phB s b = ffV 111 b) (R : World → Prop)
    (hc : ∀ W, W = w → Calls Tryz.prog 111 #[.pointer (some ⟨b, 0, none⟩), .pointer (some ⟨m, 0, none⟩), .pointer (some ⟨gb, 0, none⟩)] W fun e w' => e = .returned (.tuple #[]) ∧ R w') :
    Calls Tryz.prog 11 #[.pointer (some ⟨b, 0, none⟩), .pointer (some ⟨m, 0, none⟩), .pointer (some ⟨gb, 0, none⟩)] w fun e w' => e = .returned (.tuple #[]) ∧ R w' := by
  have DN := hidOf (bdone_any b fb s w h.bb)
  rw [hd] at DN
  have B := h.bb
  rw [ph] at B
  have q4 := cell_of_blk B (i := 4) rfl
  unfold ffV at q4
  have HC := hidOf (hc w rfl)
  clear hc B h hd ph
  go_enter Tryz.func11, Tryz.ntmps11
  go_wp2_with fail
  refine DN.out.mono ?_
  rintro e w1 ⟨rfl, rfl⟩
  go_wp2_with fail
  refine HC.out.mono ?_
  rintro e w2 ⟨rfl, X⟩
  have HX := hidOf X
  clear HC DN X q4
  go_wp2
  go_end0
  exact ⟨rfl, HX.out⟩
set_option maxHeartbeats 4000000 in
/-- A step of a build whose machine says what comes next. -/
theorem bstep_link (h : Bw base w0 w b fb gb m p r c g s cs cnt a) (hd : s.d = false) (ph : phB s b = ffV 110 b) (R : World → Prop)
    (hc : ∀ W, W = w → Calls Tryz.prog 110 #[.pointer (some ⟨b, 0, none⟩), .pointer (some ⟨m, 0, none⟩), .pointer (some ⟨gb, 0, none⟩)] W fun e w' => e = .returned (.tuple #[]) ∧ R w') :
    Calls Tryz.prog 11 #[.pointer (some ⟨b, 0, none⟩), .pointer (some ⟨m, 0, none⟩), .pointer (some ⟨gb, 0, none⟩)] w fun e w' => e = .returned (.tuple #[]) ∧ R w' := by
  have DN := hidOf (bdone_any b fb s w h.bb)
  rw [hd] at DN
  have B := h.bb
  rw [ph] at B
  have q4 := cell_of_blk B (i := 4) rfl
  unfold ffV at q4
  have HC := hidOf (hc w rfl)
  clear hc B h hd ph
  go_enter Tryz.func11, Tryz.ntmps11
  go_wp2_with fail
  refine DN.out.mono ?_
  rintro e w1 ⟨rfl, rfl⟩
  go_wp2_with fail
  refine HC.out.mono ?_
  rintro e w2 ⟨rfl, X⟩
  have HX := hidOf X
  clear HC DN X q4
  go_wp2
  go_end0
  exact ⟨rfl, HX.out⟩
set_option maxHeartbeats 2000000 in
theorem bstep_d (h : Bw base w0 w b fb gb m p r c g s cs cnt a) (hd : s.d = true) :
    Calls Tryz.prog 11 #[.pointer (some ⟨b, 0, none⟩), .pointer (some ⟨m, 0, none⟩), .pointer (some ⟨gb, 0, none⟩)] w fun e w' => e = .returned (.tuple #[]) ∧ w' = w := by
  have DN := hidOf (bdone_any b fb s w h.bb)
  rw [hd] at DN
  clear h hd
  go_enter Tryz.func11, Tryz.ntmps11
  go_wp2_with fail
  refine DN.out.mono ?_
  rintro e w1 ⟨rfl, rfl⟩
  clear DN
  go_wp2
  go_end0
  exact ⟨rfl, rfl⟩
theorem bstep_any (h : Bw base w0 w b fb gb m p r c g s cs cnt a) (c1 : cnt < 4611686018427387904) :
    Calls Tryz.prog 11 #[.pointer (some ⟨b, 0, none⟩), .pointer (some ⟨m, 0, none⟩), .pointer (some ⟨gb, 0, none⟩)] w fun e w' => e = .returned (.tuple #[]) ∧ BR base w0 w w' b fb gb m p r c (bG c g s) (bF c cs cnt g s) (bC c cs g s) (bN cnt s) (bA c cs g s a) := by
  cases hd : s.d with
  | true =>
    obtain ⟨e1, e2, e3, e4⟩ := bF_done (c := c) (cs := cs) (cnt := cnt) (g := g) hd
    have e5 : bA c cs g s a = a := if_pos hd
    rw [e1, e2, e3, e4, e5]
    exact (bstep_d h hd).mono fun _ _ hh => ⟨hh.1, by rw [hh.2]; exact ⟨fb, Or.inl rfl, h, FK.of (Kept.refl _ _)⟩⟩
  | false =>
    rcases (by have := h.bi.nx; omega : s.nx = 0 ∨ s.nx = 1 ∨ s.nx = 2 ∨ s.nx = 3) with e | e | e | e
    · exact bstep_find h hd (by unfold phB; rw [if_neg (by rw [hd]; decide), e]; rfl) _ (fun W hW => by rw [hW]; exact bfind_any h hd e c1)
    · exact bstep_own h hd (bown_eq hd e) _ (fun W hW => by rw [hW]; exact bown_any h hd e c1 _)
    · exact bstep_set h hd (bset_eq hd e) _ (fun W hW => by rw [hW]; exact bset_any h hd e c1 _)
    · exact bstep_link h hd (blink_eq hd e) _ (fun W hW => by rw [hW]; exact blink_any h hd e c1 _)
end
end K
end Go.Proofs.YtkjjieklccbmoaaGreatDoor
namespace Go.Proofs.YtkjjieklccbmoaaGreatDoor
open Go.RowKit (Grown Hid Below)
open Go.Deep
namespace K
set_option maxRecDepth 100000
/-- The chain of a level, from the head on: it passes no node of P, and has none but those of Q. -/
def Chn (c : Cfg) (n : Nat) (cs : List Int) (L : Nat) (P Q : Nat → Prop) : Prop := ∃ C : Nat → Prop, C 0 ∧ ∀ i, C i → Q i ∧ i ≤ n ∧ ∃ j b, fd c cs i (6 + L : Nat) = nw n j b ∧ (i = 0 → b = false) ∧ i < j ∧ j ≤ n + 1 ∧ (j ≤ n → C j) ∧ ∀ m, i < m → m < j → ¬ P m
theorem Chn.same {c : Cfg} {n : Nat} {cs ds : List Int} {L : Nat} {P Q : Nat → Prop} (h : Chn c n cs L P Q) (e : ∀ i : Nat, i ≤ n → fd c ds i (6 + L : Nat) = fd c cs i (6 + L : Nat)) : Chn c n ds L P Q := by
  obtain ⟨C, c0, h⟩ := h
  refine ⟨C, c0, fun i hi => ?_⟩
  obtain ⟨q, a, j, b, e1, r⟩ := h i hi
  exact ⟨q, a, j, b, (e i a).trans e1, r⟩
theorem Chn.imp {c : Cfg} {n : Nat} {cs : List Int} {L : Nat} {P Q P' Q' : Nat → Prop} (h : Chn c n cs L P Q) (hp : ∀ m, m ≤ n → P' m → P m) (hq : ∀ i, i ≤ n → Q i → Q' i) : Chn c n cs L P' Q' := by
  obtain ⟨C, c0, h⟩ := h
  refine ⟨C, c0, fun i hi => ?_⟩
  obtain ⟨q, a, j, b, e1, hb, lt, le, cj, no⟩ := h i hi
  exact ⟨hq i a q, a, j, b, e1, hb, lt, le, cj, fun m h1 h2 hm => no m h1 h2 (hp m (by omega) hm)⟩
/-- The words of one level. -/
def Lvl (c : Cfg) (l : Nd) (cs : List Int) (N : Nat → Nat → Nat) (L : Nat) : Prop := ∀ i, On l L i → fd c cs i (6 + L : Nat) = nw l.n (N L i) (decide (l.um i ≤ L))
theorem Lvl.chn {c : Cfg} {l : Nd} {cs : List Int} {N : Nat → Nat → Nat} {L : Nat} (ok : l.ok c) (h : Lvl c l cs N L) (sk : Sk l N) (hL : L < HN c) : Chn c l.n cs L (Live l L) (On l L) := by
  refine ⟨On l L, ⟨Nat.zero_le _, by have := ok.h0.1; omega⟩, fun i hi => ⟨hi, hi.1, N L i, _, h i hi, (fun e => by subst e; exact decide_eq_false (by have := ok.h0.1; have := ok.h0.2; omega)), (sk.lt L i hi).1, (sk.lt L i hi).2, sk.on L i hi, fun m h1 h2 => sk.sk L i m hi h1 h2⟩⟩
theorem Rep.lvl {c : Cfg} {l : Nd} {cs : List Int} {N : Nat → Nat → Nat} (h : Rep c l cs N) (L : Nat) : Lvl c l cs N L := fun i hi => h.nx L i hi
/-- What a step of a find, alone, leaves as it was: all but one word, that of a node that is not deleted on the level. -/
theorem Iv.rest {c : Cfg} {l : Nd} {k : Int} {cs : List Int} {f : Fm} {N : Nat → Nat → Nat} {rp rs : Nat → Nat} {p : Nat} (hr : riB c = true) (ok : l.ok c) (hl : (cs.length : Int) = lnV c) (h : Iv c l k cs f N rp rs p) (hd : f.d = false) (g : Gs) {i F : Nat} (hi : i ≤ l.n) (hF : F < 6 + HN c) (hn : ∀ L, F = 6 + L → ¬ Live l L i) : fd c (fC c cs g f) i F = fd c cs i F := by
  have R := riB_true.1 hr
  have hdn : f.dn < HN c := by
    have z := h.d; rw [hd] at z
    have := of_decide_eq_false z.symm; omega
  have r := h.run hdn
  unfold fC
  rw [if_neg (by rw [hd]; decide)]
  by_cases e2 : f.nx = 2
  · rw [if_pos e2]; exact fd_pub _ _ _ _ _ _ _
  · rw [if_neg e2]
    by_cases e4 : f.nx = 4
    · rw [if_pos e4]
      have px : ixV f.pr = p := by rw [r.pr]; exact hw_ix (by have := r.pl.1; have := n_lt R ok; omega)
      have hc := inF_of hr ok (i := p) (f := 6 + (HN c - 1 - f.dn)) r.pl.1 (by omega)
      have op := r.pl.on ok
      have hx := r.xn (by omega)
      have hw0 : rdG cs (clV' c p (6 + (HN c - 1 - f.dn) : Nat)) = f.x := by
        have z := h.rep.nx _ p op
        rw [live_um r.pl, nw_hw hx, ← r.x (by omega) (by omega)] at z
        exact z
      have hi' := inF_of hr ok (i := i) (f := F) hi hF
      unfold fd
      rw [px, lv_eq R hdn, (rd_swap cs _ _ _ _ (cl_has hl hc) hw0).1, if_neg]
      intro z
      have q := cl_inj hi' hc z
      have e1 : i = p := by omega
      subst e1
      exact hn (HN c - 1 - f.dn) (by omega) r.pl
    · rw [if_neg e4]
/-- One node of those that were laid is put on one level first: which it is, on how many levels it will be, on how many it is not deleted. -/
structure Low (c : Cfg) (l : Nd) (z T U : Nat) : Prop where
  ok : l.ok c
  z1 : 1 ≤ z
  zn : z ≤ l.n
  t1 : l.tl z = 1
  u1 : l.um z = min U 1
  UT : U ≤ T
  TH : T ≤ HN c
  T1 : 1 ≤ T
/-- Not deleted on the level, in the end. -/
def LiveF (l : Nd) (z U L i : Nat) : Prop := Live l L i ∨ (i = z ∧ L < U)
/-- What it names above the level below. -/
def Zup (c : Cfg) (l : Nd) (z T U : Nat) (cs : List Int) (A : Nat) : Prop := ∀ L, A ≤ L → L < T → fd c cs z (6 + L : Nat) = nw l.n (l.n + 1) (decide (U ≤ L))
/-- What holds ahead of the end, when the find is done. -/
structure PhB (c : Cfg) (l : Nd) (z T U : Nat) (k : Int) (cs : List Int) (s : Bm) (N : Nat → Nat → Nat) (P S : Nat → Nat) (V : Nat) : Prop where
  sk : Sk l N
  fd1 : s.f.d = true
  hp : ∀ L, L < HN c → enV true s.f.ps L = hw (P L)
  hs : ∀ L, L < HN c → enV true s.f.ss L = nw l.n (S L) false
  hk : ∀ L, L < HN c → enV true s.f.ks L = if S L ≤ l.n then l.K (S L) else 0
  rs : ∀ L, L < HN c → ∃ st, Rs l k N L st (P L) (S L)
  lv : s.lv = V
  v1 : 1 ≤ V
  vT : V < T
  l0 : Lvl c l cs N 0
  ls : ∀ L, V ≤ L → L < HN c → Lvl c l cs N L
  ch : ∀ L, 1 ≤ L → L < V → L < U ∧ Chn c l.n cs L (LiveF l z U L) (fun _ => True)
  up : Zup c l z T U cs (V + 1)
  nx : s.nx = 1 ∨ s.nx = 2 ∨ s.nx = 3
  o1 : s.nx ≠ 3 → fd c cs z (6 + V : Nat) = nw l.n (l.n + 1) (decide (U ≤ V))
  o2 : s.nx = 2 → V < U ∧ s.w = nw l.n (l.n + 1) false
  o3 : s.nx = 3 → V < U ∧ fd c cs z (6 + V : Nat) = nw l.n (S V) false
/-- What holds at the end. -/
structure PhE (c : Cfg) (l : Nd) (z T U : Nat) (cs : List Int) (s : Bm) : Prop where
  d : s.d = true
  lv : s.lv = (max 1 U : Nat)
  ch : ∀ L, L < HN c → Chn c l.n cs L (LiveF l z U L) (fun i => i = z → L = 0 ∨ L < U)
/-- A build, alone. -/
structure Ba (c : Cfg) (l : Nd) (z T U : Nat) (k : Int) (cs : List Int) (g : Gs) (s : Bm) (left : Int) : Prop where
  lo : Low c l z T U
  sh : s.h = hw z
  sk : s.k = k
  st : s.tl = T
  kz : l.K z = k
  ln : (cs.length : Int) = lnV c
  u1 : g.u ≤ c.s
  ph : (s.d = false ∧ s.nx = 0 ∧ s.f.d = false ∧ s.lv = 1 ∧ 2 ≤ T ∧ Zup c l z T U cs 1 ∧ ∃ N rp rs p, Iv c l k cs s.f N rp rs p ∧ mu c l cs g s.f N p 0 + 3 * T ≤ left)
    ∨ (s.d = false ∧ ∃ N P S V, PhB c l z T U k cs s N P S V ∧ 3 * ((T : Int) - V) + 3 - (s.nx : Int) ≤ left)
    ∨ PhE c l z T U cs s
theorem nw_0 {n : Nat} : nw n (n + 1) false = 0 := by unfold nw; rw [if_neg (by omega)]; rfl
theorem nw_ne0 {n j : Nat} (h : j ≤ n) : nw n j false ≠ 0 := by rw [nw_hw h]; unfold hw; omega
theorem nw_eq {n i j : Nat} (hi : i ≤ n + 1) (hj : j ≤ n + 1) (h : nw n i false = nw n j false) : i = j := by
  unfold nw hw at h
  split at h <;> split at h <;> simp at h <;> omega
/-- Where the node belongs on a level: between what the find noted. -/
theorem Rs.place {l : Nd} {c : Cfg} (ok : l.ok c) {k : Int} {N : Nat → Nat → Nat} {M st p s z : Nat} (sk : Sk l N) (h : Rs l k N M st p s) (z1 : 1 ≤ z) (zn : z ≤ l.n) (hz : l.K z = k) (hd : ¬ Live l M z) : p < z ∧ (s ≤ l.n → z < s ∧ k < l.K s) := by
  refine ⟨?_, fun hs => ?_⟩
  · by_cases h0 : p < z
    · exact h0
    exfalso
    have hne : ¬ p = z := fun e => hd (by rw [← e]; exact h.pl)
    rcases h.pk with e | e
    · omega
    · have := ok.up z p z1 (by omega) h.pl.1; omega
  · obtain ⟨ls, ks⟩ := h.sl hs
    have hne : ¬ s = z := fun e => hd (by rw [← e]; exact ls)
    by_cases hlt : z < s
    · refine ⟨hlt, ?_⟩
      have := ok.up z s z1 hlt hs; omega
    · exfalso
      have lt := sk.lt M p (h.pl.on ok)
      have e := h.e
      have := ok.up s z (by omega) (by omega) zn
      omega
/-- A node is linked on a level, between what the find noted. -/
theorem Chn.link {c : Cfg} {l : Nd} (ok : l.ok c) {k : Int} {cs ds : List Int} {N : Nat → Nat → Nat} {V st p s z : Nat} (lv : Lvl c l cs N V) (sk : Sk l N) (h : Rs l k N V st p s) (hV : V < HN c) (z1 : 1 ≤ z) (zn : z ≤ l.n) (hz : l.K z = k) (hd : ¬ On l V z)
    (e1 : ∀ i : Nat, i ≤ l.n → i ≠ p → fd c ds i (6 + V : Nat) = fd c cs i (6 + V : Nat)) (e2 : fd c ds p (6 + V : Nat) = nw l.n z false) (e3 : fd c cs z (6 + V : Nat) = nw l.n s false) : Chn c l.n ds V (fun m => Live l V m ∨ m = z) (fun _ => True) := by
  have op := h.pl.on ok
  have ep := h.e
  have ltp := sk.lt V p op
  obtain ⟨pz, zs⟩ := h.place ok sk z1 zn hz (fun q => hd (q.on ok))
  have zs' : z < s := by
    by_cases hs : s ≤ l.n
    · exact (zs hs).1
    · omega
  refine ⟨fun i => (On l V i ∧ (i ≤ p ∨ s ≤ i)) ∨ i = z, Or.inl ⟨⟨Nat.zero_le _, by have := ok.h0.1; omega⟩, Or.inl (Nat.zero_le _)⟩, fun i hi => ⟨trivial, ?_⟩⟩
  rcases hi with ⟨oi, hi⟩ | hi
  · refine ⟨oi.1, ?_⟩
    by_cases hip : i = p
    · subst hip
      refine ⟨z, false, e2, fun _ => rfl, pz, by omega, fun _ => Or.inr rfl, fun m h1 h2 hm => ?_⟩
      rcases hm with hm | hm
      · exact sk.sk V i m op h1 (by omega) hm
      · omega
    · have past := h.past sk oi hi
      have lti := sk.lt V i oi
      refine ⟨N V i, _, (e1 i oi.1 hip).trans (lv i oi), (fun e => by subst e; exact decide_eq_false (by have := ok.h0.1; have := ok.h0.2; omega)), lti.1, lti.2, fun hn => Or.inl ⟨sk.on V i oi hn, past⟩, fun m h1 h2 hm => ?_⟩
      rcases hm with hm | hm
      · exact sk.sk V i m oi h1 h2 hm
      · subst hm
        rcases hi with a | a
        · rcases past with b | b
          · omega
          · exact sk.sk V i p oi (by omega) (by omega) h.pl
        · omega
  · subst hi
    refine ⟨zn, s, false, (e1 i zn (by omega)).trans e3, fun _ => rfl, zs', by omega, fun hs => Or.inl ⟨(h.sl hs).1.on ok, Or.inr (Nat.le_refl _)⟩, fun m h1 h2 hm => ?_⟩
    rcases hm with hm | hm
    · exact sk.sk V p m op (by omega) (by omega) hm
    · omega
theorem Low.dead {c : Cfg} {l : Nd} {z T U : Nat} (h : Low c l z T U) {L : Nat} (hL : 1 ≤ L) : ¬ On l L z := fun q => by have := q.2; have := h.t1; omega
theorem Low.dead' {c : Cfg} {l : Nd} {z T U : Nat} (h : Low c l z T U) {L : Nat} (hL : 1 ≤ L) : ¬ Live l L z := fun q => h.dead hL (q.on h.ok)
/-- Looked at: it goes on, if there is such a level. -/
theorem look_is {c : Cfg} (R : Rt c) {l : Nd} {z T U : Nat} (lo : Low c l z T U) {N : Nat → Nat → Nat} (sk : Sk l N) {k : Int} (kz : l.K z = k) {s : Bm} {V st p q : Nat} (hd : s.f.d = true) (lv : s.lv = V) (hk : s.k = k) (st' : s.tl = T) (v1 : 1 ≤ V) (vT : V < T)
    (es : enV true s.f.ss V = nw l.n q false) (ek : enV true s.f.ks V = if q ≤ l.n then l.K q else 0) (rs : Rs l k N V st p q) : (s.look c).d = false := by
  have hh := HN_eq R
  have TH := lo.TH
  show decide (s.tl ≤ s.lv ∨ c.h ≤ s.lv ∨ (s.su ≠ 0 ∧ s.ke = s.k)) = false
  rw [decide_eq_false_iff_not]
  rintro (a | a | ⟨a, b⟩)
  · omega
  · omega
  · have e1 : s.su = nw l.n q false := by unfold Bm.su; rw [hd, lv]; exact es
    have e2 : s.ke = if q ≤ l.n then l.K q else 0 := by unfold Bm.ke; rw [hd, lv]; exact ek
    by_cases hq : q ≤ l.n
    · have pl := (rs.place lo.ok sk lo.z1 lo.zn kz (lo.dead' v1)).2 hq
      rw [e2, if_pos hq, hk] at b
      omega
    · apply a
      rw [e1]; unfold nw; rw [if_neg hq]; rfl
/-- The chains at the end. -/
theorem PhB.ends {c : Cfg} {l : Nd} {z T U : Nat} {k : Int} {cs : List Int} {s : Bm} {N : Nat → Nat → Nat} {P S : Nat → Nat} {V : Nat} (lo : Low c l z T U) (b : PhB c l z T U k cs s N P S V) (hU : U ≤ V) : PhE c l z T U cs { s with d := true } := by
  have ok := lo.ok
  have u1 := lo.u1
  refine ⟨rfl, ?_, fun L hL => ?_⟩
  · show s.lv = _
    rw [b.lv]
    have v1 := b.v1
    by_cases h : V = 1
    · omega
    · have := (b.ch (V - 1) (by omega) (by omega)).1; omega
  · show Chn c l.n cs L (LiveF l z U L) _
    by_cases h0 : L = 0
    · subst h0
      refine (b.l0.chn ok b.sk hL).imp (fun m hm h => ?_) (fun _ _ _ _ => Or.inl rfl)
      rcases h with h | ⟨e, h⟩
      · exact h
      · subst e; exact ⟨lo.zn, by omega⟩
    · by_cases hV : L < V
      · obtain ⟨lu, ch⟩ := b.ch L (by omega) hV
        exact ch.imp (fun _ _ h => h) (fun _ _ _ _ => Or.inr lu)
      · refine ((b.ls L (by omega) hL).chn ok b.sk hL).imp (fun m hm h => ?_) (fun i _ h e => ?_)
        · rcases h with h | ⟨e, h⟩
          · exact h
          · omega
        · subst e; exact absurd h (lo.dead (by omega))
theorem own_is {c : Cfg} (R : Rt c) {l : Nd} {z T U : Nat} (lo : Low c l z T U) {s : Bm} {V : Nat} (sh : s.h = hw z) (lv : s.lv = V) (cs : List Int) : s.own c cs = fd c cs z (6 + V : Nat) := by
  unfold Bm.own
  have hn := n_lt R lo.ok
  rw [sh, lv, hw_ix (by have := lo.zn; omega)]
  congr 1
/-- A step of a build, alone: fewer are left. -/
theorem Ba.step {c : Cfg} {l : Nd} {z T U : Nat} {k : Int} {cs : List Int} {g : Gs} {s : Bm} {left : Int} (hr : riB c = true) (h : Ba c l z T U k cs g s left) (cnt : Int) (hd : s.d = false) : Ba c l z T U k (bC c cs g s) (bG c g s) (bF c cs cnt g s) (left - 1) := by
  have R := riB_true.1 hr
  have lo := h.lo
  have ok := lo.ok
  have hn := n_lt R ok
  have hh := HN_eq R
  have ln2 : ((bC c cs g s).length : Int) = lnV c := by rw [bC_len]; exact h.ln
  rcases h.ph with ⟨_, nx, fd0, lv, T2, up, N, rp, rs, p, I, mu0⟩ | ⟨_, N, P, S, V, b, le⟩ | e
  · obtain ⟨e1, e2, e3⟩ := bF_0 (c := c) (cs := cs) (cnt := cnt) (g := g) hd nx
    obtain ⟨N', rp', rs', p', I', le, -⟩ := mu_step hr ok h.ln I fd0 cnt g h.u1 (T := 0) (Int.le_refl _)
    have m1 := mu_pos (T := 0) (g := g) ok I fd0 (Int.le_refl _)
    have up' : Zup c l z T U (fC c cs g s.f) 1 := fun L a b => (I.rest hr ok h.ln fd0 g lo.zn (by have := lo.TH; omega) (fun M e => by
      have : M = L := by omega
      subst this; exact lo.dead' a)).trans (up L a b)
    have u1' : (bG c g s).u ≤ c.s := by
      rw [e3]
      unfold fG
      rw [if_neg (by rw [fd0]; decide)]
      split
      · have s1 := R.s0
        have u := h.u1
        show pubN c g + 1 ≤ c.s
        unfold pubN; split <;> omega
      · exact h.u1
    rw [e1] at *
    cases q : (fF c cs cnt g s.f).d with
    | false =>
      rw [if_neg (by decide)]
      refine ⟨lo, h.sh, h.sk, h.st, h.kz, ln2, u1', Or.inl ⟨hd, nx, q, lv, T2, by rw [e2]; exact up', N', rp', rs', p', by rw [e2]; exact I', ?_⟩⟩
      rcases le with z | z
      · rw [q] at z; cases z
      · rw [e2, e3]; show mu c l _ _ (fF c cs cnt g s.f) N' p' 0 + 3 * T ≤ left - 1; omega
    | true =>
      rw [if_pos rfl]
      have nt := fun L (hL : L < HN c) => I'.noted q hL
      have tl := fun L (hL : L < HN c) => I'.tells q hL
      have h1 : 1 < HN c := by have := lo.TH; omega
      have ld := look_is R lo I'.sk h.kz (s := { s with f := fF c cs cnt g s.f }) (V := 1) (q := rs' (HN c - 1 - 1)) q lv h.sk h.st (Nat.le_refl _) T2 (tl 1 h1).2.1 (tl 1 h1).2.2 (nt 1 h1)
      refine ⟨lo, h.sh, h.sk, h.st, h.kz, ln2, u1', Or.inr (Or.inl ⟨ld, N', fun L => rp' (HN c - 1 - L), fun L => rs' (HN c - 1 - L), 1, ?_, ?_⟩)⟩
      · rw [e2]
        exact ⟨I'.sk, q, fun L hL => (tl L hL).1, fun L hL => (tl L hL).2.1, fun L hL => (tl L hL).2.2, fun L hL => ⟨_, nt L hL⟩, lv, Nat.le_refl _, T2, I'.rep.lvl 0, fun L _ _ => I'.rep.lvl L, fun L a b => by omega, fun L a b => up' L (by omega) b, Or.inl rfl, fun _ => up' 1 (Nat.le_refl _) T2, fun z => absurd z (by show ¬ 1 = 2; omega), fun z => absurd z (by show ¬ 1 = 3; omega)⟩
      · show 3 * ((T : Int) - ((1 : Nat) : Int)) + 3 - ((1 : Nat) : Int) ≤ left - 1
        omega
  · have VH : V < HN c := by have := b.vT; have := lo.TH; omega
    have eo := own_is R lo h.sh b.lv cs
    have esu : s.su = nw l.n (S V) false := by unfold Bm.su; rw [b.fd1, b.lv]; exact b.hs V VH
    have epr : s.pr = hw (P V) := by unfold Bm.pr; rw [b.fd1, b.lv]; exact b.hp V VH
    obtain ⟨st, rs⟩ := b.rs V VH
    have vT := b.vT
    have v1 := b.v1
    have lt := b.sk.lt V (P V) (rs.pl.on ok)
    have eSV := rs.e
    rcases b.nx with nx | nx | nx
    · obtain ⟨e1, e2, e3⟩ := bF_1 (c := c) (cs := cs) (cnt := cnt) (g := g) hd nx
      have o1 := b.o1 (by omega)
      rw [e1, e2, e3, eo, o1, nw_mk hn]
      by_cases hU : U ≤ V
      · rw [decide_eq_true hU]
        have z := b.ends lo hU
        refine ⟨lo, h.sh, h.sk, h.st, h.kz, h.ln, h.u1, Or.inr (Or.inr ⟨rfl, z.lv, z.ch⟩)⟩
      · rw [decide_eq_false hU, esu]
        rw [decide_eq_false hU] at o1
        refine ⟨lo, h.sh, h.sk, h.st, h.kz, h.ln, h.u1, Or.inr (Or.inl ⟨rfl, N, P, S, V, ?_, ?_⟩)⟩
        · by_cases hs : nw l.n (l.n + 1) false = nw l.n (S V) false
          · rw [if_pos hs]
            exact ⟨b.sk, b.fd1, b.hp, b.hs, b.hk, b.rs, b.lv, v1, vT, b.l0, b.ls, b.ch, b.up, Or.inr (Or.inr rfl), fun z => absurd rfl z, fun z => absurd z (by show ¬ 3 = 2; omega), fun _ => ⟨by omega, by rw [← hs]; exact o1⟩⟩
          · rw [if_neg hs]
            exact ⟨b.sk, b.fd1, b.hp, b.hs, b.hk, b.rs, b.lv, v1, vT, b.l0, b.ls, b.ch, b.up, Or.inr (Or.inl rfl), fun _ => by rw [decide_eq_false hU]; exact o1, fun _ => ⟨by omega, rfl⟩, fun z => absurd z (by show ¬ 2 = 3; omega)⟩
        · rw [nx] at le
          show 3 * ((T : Int) - V) + 3 - (((if nw l.n (l.n + 1) false = nw l.n (S V) false then 3 else 2 : Nat)) : Int) ≤ left - 1
          split <;> omega
    · obtain ⟨e1, e2, e3⟩ := bF_2 (c := c) (cs := cs) (cnt := cnt) (g := g) hd nx
      have o1 := b.o1 (by omega)
      obtain ⟨VU, ew⟩ := b.o2 nx
      rw [decide_eq_false (by omega)] at o1
      have ix : ixV s.h = z := by rw [h.sh]; exact hw_ix (by have := lo.zn; omega)
      have e6 : 6 + s.lv = ((6 + V : Nat) : Int) := by rw [b.lv]; omega
      have hc := inF_of hr ok (i := z) (f := 6 + V) lo.zn (by omega)
      have sw := fun y => rd_swap cs (clV' c z (6 + V : Nat)) y s.w s.su (cl_has h.ln hc) (by rw [ew]; exact o1)
      have ec : bC c cs g s = clV cs 3 (clV' c z (6 + V : Nat)) s.w s.su := by rw [e2, ix, e6]
      have hD : (s.aS c cs).d = true := by unfold Bm.aS; rw [ix, e6]; exact (sw 0).2 _
      have keep : ∀ (i L : Nat), i ≤ l.n → L < HN c → ¬ (i = z ∧ L = V) → fd c (bC c cs g s) i (6 + L : Nat) = fd c cs i (6 + L : Nat) := fun i L hi hL hne => by
        rw [ec]; unfold fd
        rw [(sw _).1, if_neg]
        intro q
        have := cl_inj (inF_of hr ok (i := i) (f := 6 + L) hi (by omega)) hc q
        omega
      have at' : fd c (bC c cs g s) z (6 + V : Nat) = nw l.n (S V) false := by
        rw [ec]; unfold fd
        rw [(sw _).1, if_pos rfl, esu]
      rw [e1, e3, hD, if_pos rfl]
      refine ⟨lo, h.sh, h.sk, h.st, h.kz, ln2, h.u1, Or.inr (Or.inl ⟨hd, N, P, S, V, ?_, ?_⟩)⟩
      · refine ⟨b.sk, b.fd1, b.hp, b.hs, b.hk, b.rs, b.lv, v1, vT, fun i hi => (keep i 0 hi.1 (by omega) (by omega)).trans (b.l0 i hi), fun L a hL i hi => (keep i L hi.1 hL (fun q => lo.dead v1 (by rw [← q.1, ← q.2]; exact hi))).trans (b.ls L a hL i hi), fun L a c' => ⟨(b.ch L a c').1, (b.ch L a c').2.same (fun i hi => keep i L hi (by omega) (by omega))⟩, fun L a c' => (keep z L lo.zn (by have := lo.TH; omega) (by omega)).trans (b.up L a c'), Or.inr (Or.inr rfl), fun q => absurd rfl q, fun q => absurd q (by show ¬ 3 = 2; omega), fun _ => ⟨VU, at'⟩⟩
      · rw [nx] at le
        show 3 * ((T : Int) - V) + 3 - ((3 : Nat) : Int) ≤ left - 1
        omega
    · obtain ⟨e1, e2, e3⟩ := bF_3 (c := c) (cs := cs) (cnt := cnt) (g := g) hd nx
      obtain ⟨VU, ez⟩ := b.o3 nx
      have pn := rs.pl.1
      have ix : ixV s.pr = P V := by rw [epr]; exact hw_ix (by omega)
      have e6 : 6 + s.lv = ((6 + V : Nat) : Int) := by rw [b.lv]; omega
      have hc := inF_of hr ok (i := P V) (f := 6 + V) pn (by omega)
      have hw0 : rdG cs (clV' c (P V) (6 + V : Nat)) = s.su := by
        have z := b.ls V (Nat.le_refl _) VH (P V) (rs.pl.on ok)
        rw [live_um rs.pl, eSV] at z
        rw [esu]; exact z
      have sw := fun y => rd_swap cs (clV' c (P V) (6 + V : Nat)) y s.su s.h (cl_has h.ln hc) hw0
      have ec : bC c cs g s = clV cs 3 (clV' c (P V) (6 + V : Nat)) s.su s.h := by rw [e2, ix, e6]
      have hD : (s.aL c cs).d = true := by unfold Bm.aL; rw [ix, e6]; exact (sw 0).2 _
      have keep : ∀ (i L : Nat), i ≤ l.n → L < HN c → ¬ (i = P V ∧ L = V) → fd c (bC c cs g s) i (6 + L : Nat) = fd c cs i (6 + L : Nat) := fun i L hi hL hne => by
        rw [ec]; unfold fd
        rw [(sw _).1, if_neg]
        intro q
        have := cl_inj (inF_of hr ok (i := i) (f := 6 + L) hi (by omega)) hc q
        omega
      have at' : fd c (bC c cs g s) (P V) (6 + V : Nat) = nw l.n z false := by
        rw [ec]; unfold fd
        rw [(sw _).1, if_pos rfl, h.sh, nw_hw lo.zn]
      have pz := (rs.place ok b.sk lo.z1 lo.zn h.kz (lo.dead' v1)).1
      have chV : Chn c l.n (bC c cs g s) V (LiveF l z U V) (fun _ => True) := by
        refine (Chn.link ok (b.ls V (Nat.le_refl _) VH) b.sk rs VH lo.z1 lo.zn h.kz (lo.dead v1) (fun i hi hne => keep i V hi VH (by omega)) at' ez).imp (fun m _ q => ?_) (fun _ _ _ => trivial)
        rcases q with q | q
        · exact Or.inl q
        · exact Or.inr q.1
      rw [e1, e3, hD, if_pos rfl]
      have B : PhB c l z T U k (bC c cs g s) { s with nx := 1 } N P S V → True := fun _ => trivial
      have l0' : Lvl c l (bC c cs g s) N 0 := fun i hi => (keep i 0 hi.1 (by omega) (by omega)).trans (b.l0 i hi)
      have ls' : ∀ L, V + 1 ≤ L → L < HN c → Lvl c l (bC c cs g s) N L := fun L a hL i hi => (keep i L hi.1 hL (by omega)).trans (b.ls L (by omega) hL i hi)
      have ch' : ∀ L, 1 ≤ L → L < V + 1 → L < U ∧ Chn c l.n (bC c cs g s) L (LiveF l z U L) (fun _ => True) := fun L a c' => by
        by_cases e : L = V
        · subst e; exact ⟨VU, chV⟩
        · exact ⟨(b.ch L a (by omega)).1, (b.ch L a (by omega)).2.same (fun i hi => keep i L hi (by omega) (by omega))⟩
      have up' : Zup c l z T U (bC c cs g s) (V + 1) := fun L a c' => (keep z L lo.zn (by have := lo.TH; omega) (by omega)).trans (b.up L a c')
      by_cases hT : V + 1 = T
      · have ld : (({ s with lv := s.lv + 1 } : Bm).look c).d = true := by
          show decide (s.tl ≤ s.lv + 1 ∨ _) = true
          rw [decide_eq_true_eq]
          left; rw [h.st, b.lv]; omega
        have UT := lo.UT
        have UV : U = V + 1 := by omega
        refine ⟨lo, h.sh, h.sk, h.st, h.kz, ln2, h.u1, Or.inr (Or.inr ⟨ld, ?_, fun L hL => ?_⟩)⟩
        · show s.lv + 1 = _; rw [b.lv]; omega
        · by_cases h0 : L = 0
          · subst h0
            refine (l0'.chn ok b.sk hL).imp (fun m hm q => ?_) (fun _ _ _ _ => Or.inl rfl)
            rcases q with q | ⟨e, q⟩
            · exact q
            · subst e; exact ⟨lo.zn, by have := lo.u1; omega⟩
          · by_cases hV : L < V + 1
            · obtain ⟨lu, ch⟩ := ch' L (by omega) hV
              exact ch.imp (fun _ _ q => q) (fun _ _ _ _ => Or.inr lu)
            · refine ((ls' L (by omega) hL).chn ok b.sk hL).imp (fun m hm q => ?_) (fun i _ q e => ?_)
              · rcases q with q | ⟨e, q⟩
                · exact q
                · omega
              · subst e; exact absurd q (lo.dead (by omega))
      · have VH1 : V + 1 < HN c := by have := lo.TH; omega
        obtain ⟨st1, rs1⟩ := b.rs (V + 1) VH1
        have ld := look_is R lo b.sk h.kz (s := { s with lv := s.lv + 1 }) (V := V + 1) (q := S (V + 1)) b.fd1 (by show s.lv + 1 = _; rw [b.lv]; omega) h.sk h.st (by omega) (by omega) (b.hs (V + 1) VH1) (b.hk (V + 1) VH1) rs1
        refine ⟨lo, h.sh, h.sk, h.st, h.kz, ln2, h.u1, Or.inr (Or.inl ⟨ld, N, P, S, V + 1, ?_, ?_⟩)⟩
        · exact ⟨b.sk, b.fd1, b.hp, b.hs, b.hk, b.rs, by show s.lv + 1 = _; rw [b.lv]; omega, by omega, by omega, l0', ls', ch', fun L a c' => up' L (by omega) c', Or.inl rfl, fun _ => up' (V + 1) (Nat.le_refl _) (by omega), fun q => absurd q (by show ¬ 1 = 2; omega), fun q => absurd q (by show ¬ 1 = 3; omega)⟩
        · rw [nx] at le
          show 3 * ((T : Int) - ((V + 1 : Nat) : Int)) + 3 - ((1 : Nat) : Int) ≤ left - 1
          omega
  · rw [e.d] at hd; cases hd
theorem Ba.done {c : Cfg} {l : Nd} {z T U : Nat} {k : Int} {cs : List Int} {g : Gs} {s : Bm} {left : Int} (h : Ba c l z T U k cs g s left) (hl : left ≤ 0) : PhE c l z T U cs s := by
  rcases h.ph with ⟨_, _, fd0, _, _, _, N, rp, rs, p, I, mu0⟩ | ⟨_, N, P, S, V, b, le⟩ | e
  · have m1 := mu_pos (T := 0) (g := g) h.lo.ok I fd0 (Int.le_refl _); omega
  · exfalso
    have := b.vT
    rcases b.nx with e | e | e <;> rw [e] at le <;> omega
  · exact e
theorem Ba.stay {c : Cfg} {l : Nd} {z T U : Nat} {k : Int} {cs : List Int} {g : Gs} {s : Bm} {left left' : Int} (h : Ba c l z T U k cs g s left) (hd : s.d = true) : Ba c l z T U k cs g s left' := by
  rcases h.ph with ⟨a, _⟩ | ⟨a, _⟩ | e
  · rw [hd] at a; cases a
  · rw [hd] at a; cases a
  · exact ⟨h.lo, h.sh, h.sk, h.st, h.kz, h.ln, h.u1, Or.inr (Or.inr e)⟩
theorem Ba.fin {c : Cfg} {l : Nd} {z T U : Nat} {k : Int} {cs : List Int} {g : Gs} {s : Bm} {left : Int} (h : Ba c l z T U k cs g s left) (hd : s.d = true) : PhE c l z T U cs s := (h.stay (left' := 0) hd).done (Int.le_refl _)
/-- At the beginning. -/
theorem Ba.start {c : Cfg} {l : Nd} {z T U : Nat} {k t : Int} {cs : List Int} {N : Nat → Nat → Nat} (hr : riB c = true) (lo : Low c l z T U) (kz : l.K z = k) (ln : (cs.length : Int) = lnV c) (rep : Rep c l cs N) (sk : Sk l N) (up : Zup c l z T U cs 1) : Ba c l z T U k cs ⟨0, 0, t⟩ (bmS (hw z) k T) (full c l + 3 + 3 * T) := by
  have R := riB_true.1 hr
  refine ⟨lo, rfl, rfl, rfl, kz, ln, by show (0 : Int) ≤ c.s; have := R.s0; omega, ?_⟩
  by_cases hT : T < 2
  · right; right
    have T1 : T = 1 := by have := lo.T1; omega
    refine ⟨decide_eq_true (by omega), ?_, fun L hL => ?_⟩
    · show (1 : Int) = _; have := lo.UT; omega
    · refine ((rep.lvl L).chn lo.ok sk hL).imp (fun m hm q => ?_) (fun i _ q e => ?_)
      · rcases q with q | ⟨e, q⟩
        · exact q
        · subst e; have := lo.UT; have := lo.u1; exact ⟨lo.zn, by omega⟩
      · subst e; left; have := q.2; have := lo.t1; omega
  · left
    refine ⟨decide_eq_false (by omega), rfl, rfl, rfl, by omega, up, N, fun _ => 0, fun _ => 0, 0, Iv.of_anew (f := ⟨k, 0, 0, 0, 0, 0, 0, [], [], [], 0, false⟩) R lo.ok rep sk rfl 0 _ _, ?_⟩
    have zmu := mu_start (cs := cs) (t := t) R lo.ok sk ⟨k, 0, 0, 0, 0, 0, 0, [], [], [], 0, false⟩ 0 (T := 0) (by omega)
    show mu c l cs ⟨0, 0, t⟩ ((⟨k, 0, 0, 0, 0, 0, 0, [], [], [], 0, false⟩ : Fm).anew 0) N 0 0 + 3 * T ≤ full c l + 3 + 3 * T
    omega
end K
end Go.Proofs.YtkjjieklccbmoaaGreatDoor
