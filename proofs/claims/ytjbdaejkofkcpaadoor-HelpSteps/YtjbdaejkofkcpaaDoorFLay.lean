/-
  The plain mathematics of nodes that are laid by hand: the words, one behind the other, as the document writes them.
-/
import Derived.Test.YtjbdaejkofkcpaaDoorFLaid
import Derived.Test.YtjbdaejkofkcpaaDoorFInv
namespace Go.Proofs.YtjbdaejkofkcpaaDoor
open Go.RowKit (Grown Hid Below)
open Go.Deep
namespace K
set_option maxRecDepth 100000
/-- The head's levels below M; a node's. -/
def lyHd (c : Cfg) (l : Nd) (cs : List Int) : Nat → List Int
  | 0 => cs
  | M + 1 => stW c (lyHd c l cs M) 0 (6 + M : Nat) (nw l.n (N0 l M 0) false)
def lyLv (c : Cfg) (l : Nd) (i : Nat) (cs : List Int) : Nat → List Int
  | 0 => cs
  | M + 1 => stW c (lyLv c l i cs M) i (6 + M : Nat) (nw l.n (N0 l M i) (decide (l.um i ≤ M)))
/-- A node's six words. -/
def lyV (x : Nn) : Int := if x.d = true then 2 * x.v + 1 else 2 * x.v
def lySix (c : Cfg) (x : Nn) (i : Nat) (cs : List Int) : List Int := stW c (stW c (stW c (stW c (stW c (stW c cs i 0 1) i 1 x.k) i 2 (lyV x)) i 3 1) i 4 x.t) i 5 1
def lyNd (c : Cfg) (ns : List Nn) (i : Nat) (cs : List Int) : List Int := lyLv c (ndOf c ns) i (lySix c (ns.getD (i - 1) nn0) i cs) ((ndOf c ns).tl i)
def lyAll (c : Cfg) (ns : List Nn) : Nat → List Int
  | 0 => lyHd c (ndOf c ns) (fcV c) (HN c)
  | j + 1 => lyNd c ns (j + 1) (lyAll c ns j)
def layV (c : Cfg) (ns : List Nn) : List Int := lyAll c ns ns.length
theorem lyHd_len (c : Cfg) (l : Nd) (cs : List Int) : ∀ M, (lyHd c l cs M).length = cs.length
  | 0 => rfl
  | M + 1 => (stW_len _ _ _ _ _).trans (lyHd_len c l cs M)
theorem lyLv_len (c : Cfg) (l : Nd) (i : Nat) (cs : List Int) : ∀ M, (lyLv c l i cs M).length = cs.length
  | 0 => rfl
  | M + 1 => (stW_len _ _ _ _ _).trans (lyLv_len c l i cs M)
theorem lySix_len (c : Cfg) (x : Nn) (i : Nat) (cs : List Int) : (lySix c x i cs).length = cs.length := by unfold lySix; simp [stW_len]
theorem lyNd_len (c : Cfg) (ns : List Nn) (i : Nat) (cs : List Int) : (lyNd c ns i cs).length = cs.length := (lyLv_len _ _ _ _ _).trans (lySix_len _ _ _ _)
theorem lyAll_len (c : Cfg) (ns : List Nn) : ∀ j, (lyAll c ns j).length = lnN c
  | 0 => (lyHd_len _ _ _ _).trans (fcV_len c)
  | j + 1 => (lyNd_len _ _ _ _).trans (lyAll_len c ns j)
theorem lyHd_fd {c : Cfg} {l : Nd} {cs : List Int} (hr : riB c = true) (hl : (cs.length : Int) = lnV c) : ∀ M, M ≤ HN c → ∀ (i F : Nat), fd c (lyHd c l cs M) i F = if i = 0 ∧ 6 ≤ F ∧ F < 6 + M then nw l.n (N0 l (F - 6) 0) false else fd c cs i F
  | 0, _, i, F => by rw [if_neg (by omega)]; rfl
  | M + 1, hM, i, F => by
    have R := riB_true.1 hr
    have hh := HN_eq R
    have hc0 := R.c0
    have hc : inF c (0 : Nat) ((6 + M : Nat) : Int) := ⟨hr, by omega, by omega, by omega, by omega⟩
    have hl' : ((lyHd c l cs M).length : Int) = lnV c := by rw [lyHd_len]; exact hl
    show fd c (stW c (lyHd c l cs M) ((0 : Nat) : Int) (6 + M : Nat) _) i F = _
    rw [fd_stW hl' hc, lyHd_fd hr hl M (by omega)]
    by_cases h : ((i : Nat) : Int) = ((0 : Nat) : Int) ∧ ((F : Nat) : Int) = ((6 + M : Nat) : Int)
    · have e1 : i = 0 := by omega
      have e2 : F = 6 + M := by omega
      rw [if_pos h, if_pos (by omega), e2, show 6 + M - 6 = M by omega]
    · rw [if_neg h]
      by_cases h2 : i = 0 ∧ 6 ≤ F ∧ F < 6 + M
      · rw [if_pos h2, if_pos (by omega)]
      · rw [if_neg h2, if_neg (by omega)]
theorem lyLv_fd {c : Cfg} {l : Nd} {i : Nat} {cs : List Int} (hr : riB c = true) (hl : (cs.length : Int) = lnV c) (hi : (i : Int) ≤ c.c) : ∀ M, M ≤ HN c → ∀ (j F : Nat), fd c (lyLv c l i cs M) j F = if j = i ∧ 6 ≤ F ∧ F < 6 + M then nw l.n (N0 l (F - 6) i) (decide (l.um i ≤ F - 6)) else fd c cs j F
  | 0, _, j, F => by rw [if_neg (by omega)]; rfl
  | M + 1, hM, j, F => by
    have R := riB_true.1 hr
    have hh := HN_eq R
    have hc : inF c i ((6 + M : Nat) : Int) := ⟨hr, by omega, by omega, by omega, by omega⟩
    have hl' : ((lyLv c l i cs M).length : Int) = lnV c := by rw [lyLv_len]; exact hl
    show fd c (stW c (lyLv c l i cs M) i (6 + M : Nat) _) j F = _
    rw [fd_stW hl' hc, lyLv_fd hr hl hi M (by omega)]
    by_cases h : ((j : Nat) : Int) = (i : Int) ∧ ((F : Nat) : Int) = ((6 + M : Nat) : Int)
    · have e1 : j = i := by omega
      have e2 : F = 6 + M := by omega
      rw [if_pos h, if_pos (by omega), e2, show 6 + M - 6 = M by omega]
    · rw [if_neg h]
      by_cases h2 : j = i ∧ 6 ≤ F ∧ F < 6 + M
      · rw [if_pos h2, if_pos (by omega)]
      · rw [if_neg h2, if_neg (by omega)]
theorem lySix_fd {c : Cfg} {x : Nn} {i : Nat} {cs : List Int} (hr : riB c = true) (hl : (cs.length : Int) = lnV c) (hi : (i : Int) ≤ c.c) (j F : Nat) : fd c (lySix c x i cs) j F = if j = i ∧ F < 6 then (if F = 0 then 1 else if F = 1 then x.k else if F = 2 then lyV x else if F = 3 then 1 else if F = 4 then x.t else 1) else fd c cs j F := by
  have R := riB_true.1 hr
  have h0 := R.h0
  have hc : ∀ f : Nat, f < 6 → inF c i (f : Nat) := fun f hf => ⟨hr, by omega, by omega, by omega, by omega⟩
  have L : ∀ (ds : List Int) (f v : Int), ds.length = cs.length → (stW c ds i f v).length = cs.length := fun ds f v h => by rw [stW_len]; exact h
  unfold lySix
  have e0 : (stW c cs i 0 1).length = cs.length := L _ _ _ rfl
  have e1 := L _ 1 x.k e0
  have e2 := L _ 2 (lyV x) e1
  have e3 := L _ 3 1 e2
  have e4 := L _ 4 x.t e3
  rw [fd_stW (by rw [e4]; exact hl) (show inF c i 5 from hc 5 (by omega)), fd_stW (by rw [e3]; exact hl) (show inF c i 4 from hc 4 (by omega)), fd_stW (by rw [e2]; exact hl) (show inF c i 3 from hc 3 (by omega)), fd_stW (by rw [e1]; exact hl) (show inF c i 2 from hc 2 (by omega)), fd_stW (by rw [e0]; exact hl) (show inF c i 1 from hc 1 (by omega)), fd_stW hl (show inF c i 0 from hc 0 (by omega))]
  by_cases hj : j = i
  · subst hj
    by_cases hF : F < 6
    · rcases (by omega : F = 0 ∨ F = 1 ∨ F = 2 ∨ F = 3 ∨ F = 4 ∨ F = 5) with e | e | e | e | e | e <;> subst e <;> simp
    · iterate 7 rw [if_neg (by omega)]
  · iterate 7 rw [if_neg (by omega)]
theorem clk_lyHd {c : Cfg} {l : Nd} {cs : List Int} (hr : riB c = true) : ∀ M, M ≤ HN c → rdG (lyHd c l cs M) 0 = rdG cs 0
  | 0, _ => rfl
  | M + 1, hM => by
    have R := riB_true.1 hr
    have hh := HN_eq R
    have hc0 := R.c0
    have hc : inF c (0 : Nat) ((6 + M : Nat) : Int) := ⟨hr, by omega, by omega, by omega, by omega⟩
    exact (clk_stW hc _).trans (clk_lyHd hr M (by omega))
theorem clk_lyLv {c : Cfg} {l : Nd} {i : Nat} {cs : List Int} (hr : riB c = true) (hi : (i : Int) ≤ c.c) : ∀ M, M ≤ HN c → rdG (lyLv c l i cs M) 0 = rdG cs 0
  | 0, _ => rfl
  | M + 1, hM => by
    have R := riB_true.1 hr
    have hh := HN_eq R
    have hc : inF c i ((6 + M : Nat) : Int) := ⟨hr, by omega, by omega, by omega, by omega⟩
    exact (clk_stW hc _).trans (clk_lyLv hr hi M (by omega))
theorem clk_lySix {c : Cfg} {x : Nn} {i : Nat} {cs : List Int} (hr : riB c = true) (hi : (i : Int) ≤ c.c) : rdG (lySix c x i cs) 0 = rdG cs 0 := by
  have R := riB_true.1 hr
  have h0 := R.h0
  have hc : ∀ f : Nat, f < 6 → inF c i (f : Nat) := fun f hf => ⟨hr, by omega, by omega, by omega, by omega⟩
  unfold lySix
  rw [clk_stW (show inF c i 5 from hc 5 (by omega)), clk_stW (show inF c i 4 from hc 4 (by omega)), clk_stW (show inF c i 3 from hc 3 (by omega)), clk_stW (show inF c i 2 from hc 2 (by omega)), clk_stW (show inF c i 1 from hc 1 (by omega)), clk_stW (show inF c i 0 from hc 0 (by omega))]
theorem Ld.all {c : Cfg} {ns : List Nn} (h : RightN c ns) : ∀ j, j ≤ ns.length → Ld c (ndOf c ns) (lyAll c ns j) (HN c) j
  | 0, _ => by
    have hl : ((fcV c).length : Int) = lnV c := fc_ln c
    refine ⟨by rw [lyAll_len, lnN_eq], ?_, fun M hM => ?_, fun i M a b => by omega, fun i a b => by omega⟩
    · exact (clk_lyHd h.r _ (Nat.le_refl _)).trans (fc_clock h.r).1
    · show fd c (lyHd c (ndOf c ns) (fcV c) (HN c)) ((0 : Nat) : Int) _ = _
      rw [lyHd_fd h.r hl _ (Nat.le_refl _), if_pos (by omega), show 6 + M - 6 = M by omega]
  | j + 1, hj => by
    have ih := Ld.all h j (by omega)
    have ok := h.ok
    have hn := h.n
    have hi : ((j + 1 : Nat) : Int) ≤ c.c := by omega
    have ht : (ndOf c ns).tl (j + 1) ≤ HN c := ok.tl (j + 1) hj
    have l6 : ((lySix c (ns.getD j nn0) (j + 1) (lyAll c ns j)).length : Int) = lnV c := by rw [lySix_len]; exact ih.len
    have fdx : ∀ i F : Nat, fd c (lyAll c ns (j + 1)) i F = if i = j + 1 ∧ 6 ≤ F ∧ F < 6 + (ndOf c ns).tl (j + 1) then nw (ndOf c ns).n (N0 (ndOf c ns) (F - 6) (j + 1)) (decide ((ndOf c ns).um (j + 1) ≤ F - 6)) else if i = j + 1 ∧ F < 6 then (if F = 0 then 1 else if F = 1 then (ns.getD j nn0).k else if F = 2 then lyV (ns.getD j nn0) else if F = 3 then 1 else if F = 4 then (ns.getD j nn0).t else 1) else fd c (lyAll c ns j) i F := fun i F => by
      show fd c (lyLv c (ndOf c ns) (j + 1) (lySix c (ns.getD j nn0) (j + 1) (lyAll c ns j)) ((ndOf c ns).tl (j + 1))) i F = _
      rw [lyLv_fd h.r l6 hi _ ht, lySix_fd h.r ih.len hi]
    refine ⟨by rw [lyAll_len, lnN_eq], ?_, fun M hM => ?_, fun i M a b hM => ?_, fun i a b => ?_⟩
    · show rdG (lyLv c (ndOf c ns) (j + 1) (lySix c (ns.getD j nn0) (j + 1) (lyAll c ns j)) ((ndOf c ns).tl (j + 1))) 0 = 1
      rw [clk_lyLv h.r hi _ ht, clk_lySix h.r hi]; exact ih.clk
    · have z := fdx 0 (6 + M)
      rw [if_neg (by omega), if_neg (by omega)] at z
      exact z.trans (ih.hd M hM)
    · have z := fdx i (6 + M)
      by_cases e : i = j + 1
      · subst e
        rw [if_pos (by omega), show 6 + M - 6 = M by omega] at z
        exact z
      · rw [if_neg (by omega), if_neg (by omega)] at z
        exact z.trans (ih.nx i M a (by omega) hM)
    · have z := fdx i 1
      by_cases e : i = j + 1
      · subst e
        rw [if_neg (by omega), if_pos (by omega), if_neg (by omega), if_pos rfl] at z
        exact z
      · rw [if_neg (by omega), if_neg (by omega)] at z
        exact z.trans (ih.ky i a (by omega))
theorem Ld.laid {c : Cfg} {ns : List Nn} (h : RightN c ns) : Ld c (ndOf c ns) (layV c ns) (HN c) (ndOf c ns).n := Ld.all h ns.length (Nat.le_refl _)
theorem nw_word {n j : Nat} (hn : n < 4294967296) (b : Bool) : isW (nw n j b) := by
  unfold nw hw isW; cases b <;> split <;> simp <;> omega
theorem wds_stW {c : Cfg} {cs : List Int} (h : Wds cs) (i f : Int) {v : Int} (hv : isW v) : Wds (stW c cs i f v) := wds_set h _ hv
theorem wds_lyHd {c : Cfg} {l : Nd} {cs : List Int} (hn : l.n < 4294967296) (h : Wds cs) : ∀ M, Wds (lyHd c l cs M)
  | 0 => h
  | M + 1 => wds_stW (wds_lyHd hn h M) _ _ (nw_word hn _)
theorem wds_lyLv {c : Cfg} {l : Nd} {i : Nat} {cs : List Int} (hn : l.n < 4294967296) (h : Wds cs) : ∀ M, Wds (lyLv c l i cs M)
  | 0 => h
  | M + 1 => wds_stW (wds_lyLv hn h M) _ _ (nw_word hn _)
theorem wds_fc (c : Cfg) (hr : riB c = true) : Wds (fcV c) := by
  have R := riB_true.1 hr
  have := R.h0
  have := R.h1
  unfold fcV
  refine wds_set (wds_set (wds_set ?_ _ ?_) _ ?_) _ ?_
  · intro x hx
    have z := List.eq_of_mem_replicate hx
    subst z; decide
  · unfold isW; omega
  · unfold isW; omega
  · unfold isW; omega
theorem wds_all {c : Cfg} {ns : List Nn} (h : RightN c ns) (hw : ∀ x ∈ ns, x.wf) : ∀ j, j ≤ ns.length → Wds (lyAll c ns j)
  | 0, _ => wds_lyHd (n_lt (riB_true.1 h.r) h.ok) (wds_fc c h.r) _
  | j + 1, hj => by
    have ih := wds_all h hw j (by omega)
    have b := h.b j (by omega)
    have e : ns.getD j nn0 = ns[j] := by simp [show j < ns.length by omega]
    have wf := hw (ns.getD j nn0) (by rw [e]; exact List.getElem_mem _)
    have R := riB_true.1 h.r
    have := R.h1
    unfold nnB at b
    obtain ⟨⟨k0, k1⟩, v0, v1⟩ := wf
    refine wds_lyLv (n_lt R h.ok) ?_ _
    show Wds (lySix c (ns.getD j nn0) (j + 1) (lyAll c ns j))
    unfold lySix
    refine wds_stW (wds_stW (wds_stW (wds_stW (wds_stW (wds_stW ih _ _ ?_) _ _ ?_) _ _ ?_) _ _ ?_) _ _ ?_) _ _ ?_
    · unfold isW; omega
    · exact ⟨k0, k1⟩
    · unfold isW lyV; split <;> omega
    · unfold isW; omega
    · unfold isW; omega
    · unfold isW; omega
end K
end Go.Proofs.YtjbdaejkofkcpaaDoor
