/-
  Nodes that are laid by hand, as they are handed in; words that are written one behind the other.
  The plain mathematics of nodes that are laid by hand: the words, one behind the other, as the document writes them.
  A find, its guard and a world's words, together: what each call leaves, and tells.
  Words that name nodes, marked or not; a walk along a level behind a find that is done.
  Arguments: nodes that are laid; a find's play; ahead of which steps the clock goes on.
  The document's laying of nodes: the word that names the next node of a level.
  The document's laying of nodes: the words that it makes.
  The document's question whether nodes may be laid.
-/
import Derived.Test.YtgafmklfpiipcaaGreatDoorFMath
import Derived.Test.YtgafmklfpiipcaaGreatDoorRZFind
import Derived.Test.YtgafmklfpiipcaaGreatDoorOpen
import Derived.Test.YtgafmklfpiipcaaGreatDoorGOwn
import Derived.Test.YtgafmklfpiipcaaGreatDoorKBase
import Derived.Test.YtgafmklfpiipcaaGreatDoorPRef
import Derived.Test.YtgafmklfpiipcaaGreatDoorMNewR
import Derived.Deep.RegionHeld3
import Derived.Deep.CutRange
namespace Go.Proofs.YtgafmklfpiipcaaGreatDoor
open Go.RowKit (Grown Hid Below)
open Go.Deep
namespace K
set_option maxRecDepth 100000
/-- A node, as it is handed in: its key, its value, on how many levels it is, on how many of them it is deleted, whether its value is dead. -/
structure Nn where
  k : Int
  v : Int
  t : Int
  m : Int
  d : Bool
def nnL (x : Nn) : List Value := [.int .u64 x.k, .int .u64 x.v, .int .i64 x.t, .int .i64 x.m, .bool x.d]
def nnA (x : Nn) : Array Value := #[.int .u64 x.k, .int .u64 x.v, .int .i64 x.t, .int .i64 x.m, .bool x.d]
def nn0 : Nn := ⟨0, 0, 0, 0, false⟩
def Nn.wf (x : Nn) : Prop := (0 ≤ x.k ∧ x.k < 18446744073709551616) ∧ 0 ≤ x.v ∧ x.v < 18446744073709551616
def ndOf (c : Cfg) (ns : List Nn) : Nd := ⟨ns.length, fun i => (ns.getD (i - 1) nn0).k, fun i => if i = 0 then HN c else (ns.getD (i - 1) nn0).t.toNat, fun i => if i = 0 then HN c else ((ns.getD (i - 1) nn0).t - (ns.getD (i - 1) nn0).m).toNat⟩
/-- One node may be laid. -/
def nnB (c : Cfg) (x : Nn) : Prop := 1 ≤ x.t ∧ x.t ≤ c.h ∧ 0 ≤ x.m ∧ x.m ≤ x.t ∧ (0 < x.m → x.d = true) ∧ x.v < 9223372036854775808
structure RightN (c : Cfg) (ns : List Nn) : Prop where
  r : riB c = true
  n : (ns.length : Int) ≤ c.c
  b : ∀ i, i < ns.length → nnB c (ns.getD i nn0)
  up : ∀ i, i + 1 < ns.length → (ns.getD i nn0).k < (ns.getD (i + 1) nn0).k
theorem RightN.lt {c : Cfg} {ns : List Nn} (h : RightN c ns) : ∀ d i, i + d + 1 < ns.length → (ns.getD i nn0).k < (ns.getD (i + d + 1) nn0).k
  | 0, i, hi => h.up i hi
  | d + 1, i, hi => by
    have a := h.lt d i (by omega)
    have b := h.up (i + d + 1) (by omega)
    rw [show i + (d + 1) + 1 = i + d + 1 + 1 by omega]; omega
theorem RightN.ok {c : Cfg} {ns : List Nn} (h : RightN c ns) : (ndOf c ns).ok c := by
  have R := riB_true.1 h.r
  have hh := HN_eq R
  refine ⟨h.n, ⟨rfl, rfl⟩, fun i hi => ?_, fun i hi => ?_, fun i j i1 hij hj => ?_⟩
  · show (if i = 0 then HN c else (ns.getD (i - 1) nn0).t.toNat) ≤ HN c
    split
    · exact Nat.le_refl _
    · have hi' : i ≤ ns.length := hi
      have := h.b (i - 1) (by omega)
      unfold nnB at this; omega
  · show (if i = 0 then HN c else ((ns.getD (i - 1) nn0).t - (ns.getD (i - 1) nn0).m).toNat) ≤ (if i = 0 then HN c else (ns.getD (i - 1) nn0).t.toNat)
    split
    · exact Nat.le_refl _
    · have hi' : i ≤ ns.length := hi
      have := h.b (i - 1) (by omega)
      unfold nnB at this; omega
  · have hj' : j ≤ ns.length := hj
    have z := h.lt (j - i - 1) (i - 1) (by omega)
    rw [show i - 1 + (j - i - 1) + 1 = j - 1 by omega] at z
    exact z
/-- A word is written. -/
def stW (c : Cfg) (cs : List Int) (i f v : Int) : List Int := cs.set (clV' c i f).toNat v
theorem stW_len (c : Cfg) (cs : List Int) (i f v : Int) : (stW c cs i f v).length = cs.length := by unfold stW; simp
theorem fd_stW {c : Cfg} {cs : List Int} (hl : (cs.length : Int) = lnV c) {i f : Int} (h : inF c i f) (v i' f' : Int) : fd c (stW c cs i f v) i' f' = if i' = i ∧ f' = f then v else fd c cs i' f' := by
  have hx := cl_has hl h
  have e : hasC (stW c cs i f v) (clV' c i' f') ↔ hasC cs (clV' c i' f') := hasC_len (stW_len _ _ _ _ _) _
  unfold fd
  rw [rdG_eq, rdG_eq]
  by_cases he : i' = i ∧ f' = f
  · obtain ⟨rfl, rfl⟩ := he
    rw [if_pos (e.2 hx), if_pos ⟨rfl, rfl⟩]
    unfold stW
    rw [getD_set _ _ _ _ (by unfold hasC at hx; omega), if_pos rfl]
  · rw [if_neg he]
    by_cases hc : hasC cs (clV' c i' f')
    · rw [if_pos (e.2 hc), if_pos hc]
      unfold stW
      rw [getD_set _ _ _ _ (by unfold hasC at hc; omega), if_neg]
      intro z
      have h' : inF c i' f' := by
        by_cases h' : inF c i' f'
        · exact h'
        · have e2 : clV' c i' f' = -1 := if_neg h'
          have := hc.1; omega
      exact he (cl_inj h' h (by have := hc.1; have := hx.1; omega))
    · rw [if_neg (fun z => hc (e.1 z)), if_neg hc]
theorem clk_stW {c : Cfg} {cs : List Int} {i f : Int} (h : inF c i f) (v : Int) : rdG (stW c cs i f v) 0 = rdG cs 0 := by
  have e2 : clV' c i f = 1 + c.t * c.s + i * (6 + c.h) + f := if_pos h
  have z := (fld_wh h).2.1
  have := ts_bd (riB_true.1 h.1)
  have e : hasC (stW c cs i f v) 0 ↔ hasC cs 0 := hasC_len (stW_len _ _ _ _ _) _
  rw [rdG_eq, rdG_eq]
  by_cases hc : hasC cs 0
  · rw [if_pos (e.2 hc), if_pos hc]
    unfold stW
    rw [getD_set _ _ _ _ (by unfold hasC at hc; omega), if_neg (by show ¬ (clV' c i f).toNat = (0 : Int).toNat; omega)]
  · rw [if_neg (fun z => hc (e.1 z)), if_neg hc]
/-- Words in which the head's levels below H, and the first j nodes, are laid. -/
structure Ld (c : Cfg) (l : Nd) (cs : List Int) (H j : Nat) : Prop where
  len : (cs.length : Int) = lnV c
  clk : rdG cs 0 = 1
  hd : ∀ M, M < H → fd c cs 0 (6 + M : Nat) = nw l.n (N0 l M 0) false
  nx : ∀ i M, 1 ≤ i → i ≤ j → M < l.tl i → fd c cs i (6 + M : Nat) = nw l.n (N0 l M i) (decide (l.um i ≤ M))
  ky : ∀ i, 1 ≤ i → i ≤ j → fd c cs i 1 = l.K i
theorem Ld.rep {c : Cfg} {l : Nd} {cs : List Int} (ok : l.ok c) (h : Ld c l cs (HN c) l.n) : Rep c l cs (N0 l) := by
  refine ⟨fun L i hi => ?_, fun i a b => h.ky i a b⟩
  by_cases h0 : i = 0
  · subst h0
    have z := hi.2
    rw [ok.h0.1] at z
    show fd c cs 0 (6 + L : Nat) = _
    have z1 := ok.h0.1
    have z2 := ok.h0.2
    rw [h.hd L z, decide_eq_false (by omega)]
  · exact h.nx i L (by omega) hi.1 hi.2
/-- How many steps there are, at most, from the beginning. -/
theorem mu_start {c : Cfg} {l : Nd} {cs : List Int} {N : Nat → Nat → Nat} (R : Rt c) (ok : l.ok c) (sk : Sk l N) (f : Fm) (a t : Int) {T : Int} (hT : 0 ≤ T) : mu c l cs ⟨0, 0, t⟩ (f.anew a) N 0 T ≤ (T + 1) * (full c l + 3) := by
  have hh := HN_eq R
  have h0 := R.h0
  have s0 := R.s0
  have hb : bs c l (f.anew a) N 0 ≤ full c l := by
    unfold bs full
    show ((HN c - 1 - 0 : Nat) : Int) * (4 * l.n + 1) + bsL l 0 (N (HN c - 1 - 0) 0) ≤ _
    have lt := sk.lt (HN c - 1 - 0) 0 ⟨Nat.zero_le _, by have := ok.h0.1; omega⟩
    obtain ⟨M, hM⟩ : ∃ M, HN c = M + 1 := ⟨HN c - 1, by omega⟩
    rw [hM] at lt ⊢
    rw [show M + 1 - 1 - 0 = M by omega] at lt ⊢
    have z := Int.add_mul (M : Int) 1 (4 * l.n + 1)
    rw [(bsL_nx l _).1, Int.natCast_add, Int.natCast_one, z]
    omega
  have hp : pend cs ⟨0, 0, t⟩ (f.anew a) ≤ 1 := by
    unfold pend
    rw [if_neg (by show ¬ 0 = 2; omega)]
    split <;> omega
  have hp0 := (pend_bd cs ⟨0, 0, t⟩ (f.anew a)).1
  have hr : rst c ⟨0, 0, t⟩ (pend cs ⟨0, 0, t⟩ (f.anew a) + T) ≤ T := by
    unfold rst
    show (if _ ≤ c.s - 0 then 0 else _ - (c.s - 0)) ≤ T
    split <;> omega
  have z := Int.mul_le_mul_of_nonneg_left hr (full_nn c l)
  have e := Int.add_mul T 1 (full c l + 3)
  have e2 := Int.mul_add T (full c l) 3
  have e3 := Int.mul_comm T (full c l)
  unfold mu
  omega
/-- The law's own bound. -/
def bnd (c : Cfg) : Int := 6 * (c.h + 1) * (c.c + 4)
theorem full_bnd {c : Cfg} {l : Nd} (R : Rt c) (ok : l.ok c) : full c l + 3 ≤ bnd c := by
  have hh := HN_eq R
  have h0 := R.h0
  have c0 := R.c0
  have hn := ok.n
  unfold full bnd
  rw [hh]
  have a1 := Int.mul_add c.h (4 * (l.n : Int)) 1
  have a2 : c.h * (4 * (l.n : Int)) ≤ c.h * (4 * c.c) := Int.mul_le_mul_of_nonneg_left (by omega) (by omega)
  have a3 : c.h * (4 * c.c) = 4 * (c.h * c.c) := by rw [Int.mul_left_comm]
  have b1 : 6 * (c.h + 1) * (c.c + 4) = 6 * ((c.h + 1) * (c.c + 4)) := Int.mul_assoc _ _ _
  have b2 : (c.h + 1) * (c.c + 4) = c.h * (c.c + 4) + 1 * (c.c + 4) := Int.add_mul _ _ _
  have b3 : c.h * (c.c + 4) = c.h * c.c + c.h * 4 := Int.mul_add _ _ _
  have b4 : 0 ≤ c.h * c.c := Int.mul_nonneg (by omega) (by omega)
  omega
end K
end Go.Proofs.YtgafmklfpiipcaaGreatDoor
namespace Go.Proofs.YtgafmklfpiipcaaGreatDoor
open Go.RowKit (Grown Hid Below)
open Go.Deep
namespace K
set_option maxRecDepth 100000
/-- The head's levels below M; a node's. -/
def lyHd (c : Cfg) (l : Nd) (cs : List Int) : Nat → List Int
  | 0 => cs
  | M + 1 => stW c (lyHd c l cs M) 0 (6 + M : Nat) (nw l.n (N0 l M 0) false)
def lyLv (c : Cfg) (l : Nd) (i : Nat) (cs : List Int) : Nat → List Int
  | 0 => cs
  | M + 1 => stW c (lyLv c l i cs M) i (6 + M : Nat) (nw l.n (N0 l M i) (decide (l.um i ≤ M)))
/-- A node's six words. -/
def lyV (x : Nn) : Int := if x.d = true then 2 * x.v + 1 else 2 * x.v
def lySix (c : Cfg) (x : Nn) (i : Nat) (cs : List Int) : List Int := stW c (stW c (stW c (stW c (stW c (stW c cs i 0 1) i 1 x.k) i 2 (lyV x)) i 3 1) i 4 x.t) i 5 1
def lyNd (c : Cfg) (ns : List Nn) (i : Nat) (cs : List Int) : List Int := lyLv c (ndOf c ns) i (lySix c (ns.getD (i - 1) nn0) i cs) ((ndOf c ns).tl i)
def lyAll (c : Cfg) (ns : List Nn) : Nat → List Int
  | 0 => lyHd c (ndOf c ns) (fcV c) (HN c)
  | j + 1 => lyNd c ns (j + 1) (lyAll c ns j)
def layV (c : Cfg) (ns : List Nn) : List Int := lyAll c ns ns.length
theorem lyHd_len (c : Cfg) (l : Nd) (cs : List Int) : ∀ M, (lyHd c l cs M).length = cs.length
  | 0 => rfl
  | M + 1 => (stW_len _ _ _ _ _).trans (lyHd_len c l cs M)
theorem lyLv_len (c : Cfg) (l : Nd) (i : Nat) (cs : List Int) : ∀ M, (lyLv c l i cs M).length = cs.length
  | 0 => rfl
  | M + 1 => (stW_len _ _ _ _ _).trans (lyLv_len c l i cs M)
theorem lySix_len (c : Cfg) (x : Nn) (i : Nat) (cs : List Int) : (lySix c x i cs).length = cs.length := by unfold lySix; simp [stW_len]
theorem lyNd_len (c : Cfg) (ns : List Nn) (i : Nat) (cs : List Int) : (lyNd c ns i cs).length = cs.length := (lyLv_len _ _ _ _ _).trans (lySix_len _ _ _ _)
theorem lyAll_len (c : Cfg) (ns : List Nn) : ∀ j, (lyAll c ns j).length = lnN c
  | 0 => (lyHd_len _ _ _ _).trans (fcV_len c)
  | j + 1 => (lyNd_len _ _ _ _).trans (lyAll_len c ns j)
theorem lyHd_fd {c : Cfg} {l : Nd} {cs : List Int} (hr : riB c = true) (hl : (cs.length : Int) = lnV c) : ∀ M, M ≤ HN c → ∀ (i F : Nat), fd c (lyHd c l cs M) i F = if i = 0 ∧ 6 ≤ F ∧ F < 6 + M then nw l.n (N0 l (F - 6) 0) false else fd c cs i F
  | 0, _, i, F => by rw [if_neg (by omega)]; rfl
  | M + 1, hM, i, F => by
    have R := riB_true.1 hr
    have hh := HN_eq R
    have hc0 := R.c0
    have hc : inF c (0 : Nat) ((6 + M : Nat) : Int) := ⟨hr, by omega, by omega, by omega, by omega⟩
    have hl' : ((lyHd c l cs M).length : Int) = lnV c := by rw [lyHd_len]; exact hl
    show fd c (stW c (lyHd c l cs M) ((0 : Nat) : Int) (6 + M : Nat) _) i F = _
    rw [fd_stW hl' hc, lyHd_fd hr hl M (by omega)]
    by_cases h : ((i : Nat) : Int) = ((0 : Nat) : Int) ∧ ((F : Nat) : Int) = ((6 + M : Nat) : Int)
    · have e1 : i = 0 := by omega
      have e2 : F = 6 + M := by omega
      rw [if_pos h, if_pos (by omega), e2, show 6 + M - 6 = M by omega]
    · rw [if_neg h]
      by_cases h2 : i = 0 ∧ 6 ≤ F ∧ F < 6 + M
      · rw [if_pos h2, if_pos (by omega)]
      · rw [if_neg h2, if_neg (by omega)]
theorem lyLv_fd {c : Cfg} {l : Nd} {i : Nat} {cs : List Int} (hr : riB c = true) (hl : (cs.length : Int) = lnV c) (hi : (i : Int) ≤ c.c) : ∀ M, M ≤ HN c → ∀ (j F : Nat), fd c (lyLv c l i cs M) j F = if j = i ∧ 6 ≤ F ∧ F < 6 + M then nw l.n (N0 l (F - 6) i) (decide (l.um i ≤ F - 6)) else fd c cs j F
  | 0, _, j, F => by rw [if_neg (by omega)]; rfl
  | M + 1, hM, j, F => by
    have R := riB_true.1 hr
    have hh := HN_eq R
    have hc : inF c i ((6 + M : Nat) : Int) := ⟨hr, by omega, by omega, by omega, by omega⟩
    have hl' : ((lyLv c l i cs M).length : Int) = lnV c := by rw [lyLv_len]; exact hl
    show fd c (stW c (lyLv c l i cs M) i (6 + M : Nat) _) j F = _
    rw [fd_stW hl' hc, lyLv_fd hr hl hi M (by omega)]
    by_cases h : ((j : Nat) : Int) = (i : Int) ∧ ((F : Nat) : Int) = ((6 + M : Nat) : Int)
    · have e1 : j = i := by omega
      have e2 : F = 6 + M := by omega
      rw [if_pos h, if_pos (by omega), e2, show 6 + M - 6 = M by omega]
    · rw [if_neg h]
      by_cases h2 : j = i ∧ 6 ≤ F ∧ F < 6 + M
      · rw [if_pos h2, if_pos (by omega)]
      · rw [if_neg h2, if_neg (by omega)]
theorem lySix_fd {c : Cfg} {x : Nn} {i : Nat} {cs : List Int} (hr : riB c = true) (hl : (cs.length : Int) = lnV c) (hi : (i : Int) ≤ c.c) (j F : Nat) : fd c (lySix c x i cs) j F = if j = i ∧ F < 6 then (if F = 0 then 1 else if F = 1 then x.k else if F = 2 then lyV x else if F = 3 then 1 else if F = 4 then x.t else 1) else fd c cs j F := by
  have R := riB_true.1 hr
  have h0 := R.h0
  have hc : ∀ f : Nat, f < 6 → inF c i (f : Nat) := fun f hf => ⟨hr, by omega, by omega, by omega, by omega⟩
  have L : ∀ (ds : List Int) (f v : Int), ds.length = cs.length → (stW c ds i f v).length = cs.length := fun ds f v h => by rw [stW_len]; exact h
  unfold lySix
  have e0 : (stW c cs i 0 1).length = cs.length := L _ _ _ rfl
  have e1 := L _ 1 x.k e0
  have e2 := L _ 2 (lyV x) e1
  have e3 := L _ 3 1 e2
  have e4 := L _ 4 x.t e3
  rw [fd_stW (by rw [e4]; exact hl) (show inF c i 5 from hc 5 (by omega)), fd_stW (by rw [e3]; exact hl) (show inF c i 4 from hc 4 (by omega)), fd_stW (by rw [e2]; exact hl) (show inF c i 3 from hc 3 (by omega)), fd_stW (by rw [e1]; exact hl) (show inF c i 2 from hc 2 (by omega)), fd_stW (by rw [e0]; exact hl) (show inF c i 1 from hc 1 (by omega)), fd_stW hl (show inF c i 0 from hc 0 (by omega))]
  by_cases hj : j = i
  · subst hj
    by_cases hF : F < 6
    · rcases (by omega : F = 0 ∨ F = 1 ∨ F = 2 ∨ F = 3 ∨ F = 4 ∨ F = 5) with e | e | e | e | e | e <;> subst e <;> simp
    · iterate 7 rw [if_neg (by omega)]
  · iterate 7 rw [if_neg (by omega)]
theorem clk_lyHd {c : Cfg} {l : Nd} {cs : List Int} (hr : riB c = true) : ∀ M, M ≤ HN c → rdG (lyHd c l cs M) 0 = rdG cs 0
  | 0, _ => rfl
  | M + 1, hM => by
    have R := riB_true.1 hr
    have hh := HN_eq R
    have hc0 := R.c0
    have hc : inF c (0 : Nat) ((6 + M : Nat) : Int) := ⟨hr, by omega, by omega, by omega, by omega⟩
    exact (clk_stW hc _).trans (clk_lyHd hr M (by omega))
theorem clk_lyLv {c : Cfg} {l : Nd} {i : Nat} {cs : List Int} (hr : riB c = true) (hi : (i : Int) ≤ c.c) : ∀ M, M ≤ HN c → rdG (lyLv c l i cs M) 0 = rdG cs 0
  | 0, _ => rfl
  | M + 1, hM => by
    have R := riB_true.1 hr
    have hh := HN_eq R
    have hc : inF c i ((6 + M : Nat) : Int) := ⟨hr, by omega, by omega, by omega, by omega⟩
    exact (clk_stW hc _).trans (clk_lyLv hr hi M (by omega))
theorem clk_lySix {c : Cfg} {x : Nn} {i : Nat} {cs : List Int} (hr : riB c = true) (hi : (i : Int) ≤ c.c) : rdG (lySix c x i cs) 0 = rdG cs 0 := by
  have R := riB_true.1 hr
  have h0 := R.h0
  have hc : ∀ f : Nat, f < 6 → inF c i (f : Nat) := fun f hf => ⟨hr, by omega, by omega, by omega, by omega⟩
  unfold lySix
  rw [clk_stW (show inF c i 5 from hc 5 (by omega)), clk_stW (show inF c i 4 from hc 4 (by omega)), clk_stW (show inF c i 3 from hc 3 (by omega)), clk_stW (show inF c i 2 from hc 2 (by omega)), clk_stW (show inF c i 1 from hc 1 (by omega)), clk_stW (show inF c i 0 from hc 0 (by omega))]
theorem Ld.all {c : Cfg} {ns : List Nn} (h : RightN c ns) : ∀ j, j ≤ ns.length → Ld c (ndOf c ns) (lyAll c ns j) (HN c) j
  | 0, _ => by
    have hl : ((fcV c).length : Int) = lnV c := fc_ln c
    refine ⟨by rw [lyAll_len, lnN_eq], ?_, fun M hM => ?_, fun i M a b => by omega, fun i a b => by omega⟩
    · exact (clk_lyHd h.r _ (Nat.le_refl _)).trans (fc_clock h.r).1
    · show fd c (lyHd c (ndOf c ns) (fcV c) (HN c)) ((0 : Nat) : Int) _ = _
      rw [lyHd_fd h.r hl _ (Nat.le_refl _), if_pos (by omega), show 6 + M - 6 = M by omega]
  | j + 1, hj => by
    have ih := Ld.all h j (by omega)
    have ok := h.ok
    have hn := h.n
    have hi : ((j + 1 : Nat) : Int) ≤ c.c := by omega
    have ht : (ndOf c ns).tl (j + 1) ≤ HN c := ok.tl (j + 1) hj
    have l6 : ((lySix c (ns.getD j nn0) (j + 1) (lyAll c ns j)).length : Int) = lnV c := by rw [lySix_len]; exact ih.len
    have fdx : ∀ i F : Nat, fd c (lyAll c ns (j + 1)) i F = if i = j + 1 ∧ 6 ≤ F ∧ F < 6 + (ndOf c ns).tl (j + 1) then nw (ndOf c ns).n (N0 (ndOf c ns) (F - 6) (j + 1)) (decide ((ndOf c ns).um (j + 1) ≤ F - 6)) else if i = j + 1 ∧ F < 6 then (if F = 0 then 1 else if F = 1 then (ns.getD j nn0).k else if F = 2 then lyV (ns.getD j nn0) else if F = 3 then 1 else if F = 4 then (ns.getD j nn0).t else 1) else fd c (lyAll c ns j) i F := fun i F => by
      show fd c (lyLv c (ndOf c ns) (j + 1) (lySix c (ns.getD j nn0) (j + 1) (lyAll c ns j)) ((ndOf c ns).tl (j + 1))) i F = _
      rw [lyLv_fd h.r l6 hi _ ht, lySix_fd h.r ih.len hi]
    refine ⟨by rw [lyAll_len, lnN_eq], ?_, fun M hM => ?_, fun i M a b hM => ?_, fun i a b => ?_⟩
    · show rdG (lyLv c (ndOf c ns) (j + 1) (lySix c (ns.getD j nn0) (j + 1) (lyAll c ns j)) ((ndOf c ns).tl (j + 1))) 0 = 1
      rw [clk_lyLv h.r hi _ ht, clk_lySix h.r hi]; exact ih.clk
    · have z := fdx 0 (6 + M)
      rw [if_neg (by omega), if_neg (by omega)] at z
      exact z.trans (ih.hd M hM)
    · have z := fdx i (6 + M)
      by_cases e : i = j + 1
      · subst e
        rw [if_pos (by omega), show 6 + M - 6 = M by omega] at z
        exact z
      · rw [if_neg (by omega), if_neg (by omega)] at z
        exact z.trans (ih.nx i M a (by omega) hM)
    · have z := fdx i 1
      by_cases e : i = j + 1
      · subst e
        rw [if_neg (by omega), if_pos (by omega), if_neg (by omega), if_pos rfl] at z
        exact z
      · rw [if_neg (by omega), if_neg (by omega)] at z
        exact z.trans (ih.ky i a (by omega))
theorem Ld.laid {c : Cfg} {ns : List Nn} (h : RightN c ns) : Ld c (ndOf c ns) (layV c ns) (HN c) (ndOf c ns).n := Ld.all h ns.length (Nat.le_refl _)
theorem nw_word {n j : Nat} (hn : n < 4294967296) (b : Bool) : isW (nw n j b) := by
  unfold nw hw isW; cases b <;> split <;> simp <;> omega
theorem wds_stW {c : Cfg} {cs : List Int} (h : Wds cs) (i f : Int) {v : Int} (hv : isW v) : Wds (stW c cs i f v) := wds_set h _ hv
theorem wds_lyHd {c : Cfg} {l : Nd} {cs : List Int} (hn : l.n < 4294967296) (h : Wds cs) : ∀ M, Wds (lyHd c l cs M)
  | 0 => h
  | M + 1 => wds_stW (wds_lyHd hn h M) _ _ (nw_word hn _)
theorem wds_lyLv {c : Cfg} {l : Nd} {i : Nat} {cs : List Int} (hn : l.n < 4294967296) (h : Wds cs) : ∀ M, Wds (lyLv c l i cs M)
  | 0 => h
  | M + 1 => wds_stW (wds_lyLv hn h M) _ _ (nw_word hn _)
theorem wds_fc (c : Cfg) (hr : riB c = true) : Wds (fcV c) := by
  have R := riB_true.1 hr
  have := R.h0
  have := R.h1
  unfold fcV
  refine wds_set (wds_set (wds_set ?_ _ ?_) _ ?_) _ ?_
  · intro x hx
    have z := List.eq_of_mem_replicate hx
    subst z; decide
  · unfold isW; omega
  · unfold isW; omega
  · unfold isW; omega
theorem wds_all {c : Cfg} {ns : List Nn} (h : RightN c ns) (hw : ∀ x ∈ ns, x.wf) : ∀ j, j ≤ ns.length → Wds (lyAll c ns j)
  | 0, _ => wds_lyHd (n_lt (riB_true.1 h.r) h.ok) (wds_fc c h.r) _
  | j + 1, hj => by
    have ih := wds_all h hw j (by omega)
    have b := h.b j (by omega)
    have e : ns.getD j nn0 = ns[j] := by simp [show j < ns.length by omega]
    have wf := hw (ns.getD j nn0) (by rw [e]; exact List.getElem_mem _)
    have R := riB_true.1 h.r
    have := R.h1
    unfold nnB at b
    obtain ⟨⟨k0, k1⟩, v0, v1⟩ := wf
    refine wds_lyLv (n_lt R h.ok) ?_ _
    show Wds (lySix c (ns.getD j nn0) (j + 1) (lyAll c ns j))
    unfold lySix
    refine wds_stW (wds_stW (wds_stW (wds_stW (wds_stW (wds_stW ih _ _ ?_) _ _ ?_) _ _ ?_) _ _ ?_) _ _ ?_) _ _ ?_
    · unfold isW; omega
    · exact ⟨k0, k1⟩
    · unfold isW lyV; split <;> omega
    · unfold isW; omega
    · unfold isW; omega
    · unfold isW; omega
end K
end Go.Proofs.YtgafmklfpiipcaaGreatDoor
namespace Go.Proofs.YtgafmklfpiipcaaGreatDoor
open Go.RowKit (Grown Hid Below)
open Go.Deep
namespace K
set_option maxRecDepth 100000
/-- A find, its guard and the words, all of them made behind w0, of which nothing is changed. -/
structure Fw (base : Nat → Prop) (w0 w : World) (b gb m p r : Nat) (c : Cfg) (g : Gs) (f : Fm) (cs : List Int) (cnt : Int) (a : Acc) : Prop where
  st : St base w b gb m p r c g f cs cnt a
  kp : Kept [] w0 w
  ob : w0.heap.size ≤ b
  og : w0.heap.size ≤ gb
  op : w0.heap.size ≤ p
  ow : w0.heap.size ≤ r
  os : ∀ z, base z → w0.heap.size ≤ z
  n0 : 0 ≤ cnt
  t0 : Tab w0
/-- A new find of that key. -/
def fmS (k : Int) : Fm := (⟨k, 0, 0, 0, 0, 0, 0, [], [], [], 0, false⟩ : Fm).anew 0
section
variable {base : Nat → Prop} {w0 w w' : World} {b gb m p r : Nat} {c : Cfg} {g : Gs} {f : Fm} {cs : List Int} {cnt : Int} {a : Acc}
theorem St.new (h : St base w b gb m p r c g f cs cnt a) (k : Kept [] w w') : St base w' b gb m p r c g f cs cnt a :=
  ⟨h.R, h.fs.new k, h.gd.kept k (by simp), h.mm.new k, h.tb.kept k, h.fi, h.wd, h.u0, h.u1, h.g0, fun z hz => h.bs z (Nat.le_trans k.size hz)⟩
theorem Fw.new (h : Fw base w0 w b gb m p r c g f cs cnt a) (k : Kept [] w w') : Fw base w0 w' b gb m p r c g f cs cnt a :=
  ⟨h.st.new k, h.kp.trans k, h.ob, h.og, h.op, h.ow, h.os, h.n0, h.t0⟩
theorem fm_start (R : Rt c) (k : Int) : FI c (fmS k) := FI.of_anew R 0
theorem Fw.start {k t : Int} (hr : riB c = true) (K : Kept [] w0 w) (T : Tab w0) (hp : w0.heap.size ≤ p) (hrr : w0.heap.size ≤ r) (hs : ∀ z, base z → w0.heap.size ≤ z) (hsw : ∀ z, w.heap.size ≤ z → base z) (M : Mm w m p r c cs cnt a) (F : FB w b (ffV 46 b) k 0 0 0 0 0 none 0 0) (G : GB w gb ⟨0, 0, t⟩) (hb : w0.heap.size ≤ b) (hg : w0.heap.size ≤ gb) (wd : Wds cs) (n0 : 0 ≤ cnt) : Fw base w0 w b gb m p r c ⟨0, 0, t⟩ (fmS k) cs cnt a := by
  have R := riB_true.1 hr
  have h0 : 0 < w0.heap.size := lt_of_cell T.1
  exact ⟨⟨R, ⟨by omega, Or.inl ⟨F, rfl⟩⟩, G, M, T.kept K, fm_start R k, wd, by show (0 : Int) ≤ 0; omega, by show (0 : Int) ≤ c.s; have := R.s0; omega, by omega, hsw⟩, K, hb, hg, hp, hrr, hs, n0, T⟩
theorem FK.size {bs : List Nat} (h : FK base bs w w') : w.heap.size ≤ w'.heap.size := by obtain ⟨l, k, _⟩ := h; exact k.size
theorem Fw.step (h : Fw base w0 w b gb m p r c g f cs cnt a) (c1 : cnt < 4611686018427387904) :
    Calls Tryz.prog 80 #[.pointer (some ⟨b, 0, none⟩), .pointer (some ⟨m, 0, none⟩), .pointer (some ⟨gb, 0, none⟩)] w fun e w' => e = .returned (.tuple #[]) ∧ Fw base w0 w' b gb m p r c (fG c g f) (fF c cs cnt g f) (fC c cs g f) (fN cnt f) (fA c cs g f a) ∧ FK base [b, gb, p, r] w w' :=
  (fstep_any h.st h.n0 c1).mono fun _ w' hh => by
    obtain ⟨e, F, M, G, K⟩ := hh
    have KK : Kept [] w0 w' := K.kept h.kp h.os (by have := h.ob; have := h.og; have := h.op; have := h.ow; intro x hx; simp at hx; omega)
    have u := fG_u (c := c) (g := g) (f := f) h.st.R.s0 h.st.u0 h.st.u1
    refine ⟨e, ⟨⟨h.st.R, F, G, M, h.t0.kept KK, h.st.fi.step h.st.R h.st.wd cnt g, fC_wds h.st.wd h.st.fi, u.1, u.2, h.st.g0, fun z hz => h.st.bs z (Nat.le_trans K.size hz)⟩, KK, h.ob, h.og, h.op, h.ow, h.os, ?_, h.t0⟩, K⟩
    have := h.n0
    unfold fN; split <;> omega
/-- A step of a find that is not done; of one that is. -/
theorem fN_no (h : f.d = false) : fN cnt f = cnt + 1 := if_neg (by rw [h]; decide)
/-- A load of a field. -/
theorem Fw.load (h : Fw base w0 w b gb m p r c g f cs cnt a) (x fl : Int) (hx : isW x) (c1 : cnt < 4611686018427387904) :
    Calls Tryz.prog 28 #[.pointer (some ⟨m, 0, none⟩), .int .u64 x, .int .i64 fl] w fun e w' => ∃ a', e = .returned (.int .u64 (fd c cs (ixV x) fl)) ∧ Fw base w0 w' b gb m p r c g f cs (cnt + 1) a' ∧ Kept [p, r] w w' :=
  (mload_any m p r c cs cnt a x fl w h.st.mm h.st.tb hx.1 hx.2 h.n0 c1).mono fun _ w' hh => by
    obtain ⟨e, M, K⟩ := hh
    rw [clk_load] at M
    rw [ld_o] at e
    have nm := fs_nm h.st.fs h.st.mm
    have gm := h.st.gd.nm h.st.mm
    have KK : Kept [] w0 w' := h.kp.then K (by have := h.op; have := h.ow; simp; omega)
    refine ⟨_, e, ⟨⟨h.st.R, h.st.fs.kept K (by simp; omega) (fun g3 _ he => by
      obtain ⟨A, hA⟩ := he
      have n1 := blk_ne (T1 := 166) hA h.st.mm.bk.st (by decide)
      have n2 := blk_ne (T1 := 166) hA h.st.mm.bk.row (by decide)
      simp; omega), h.st.gd.kept K (by simp; omega), M, h.t0.kept KK, h.st.fi, h.st.wd, h.st.u0, h.st.u1, h.st.g0, fun z hz => h.st.bs z (Nat.le_trans K.size hz)⟩, KK, h.ob, h.og, h.op, h.ow, h.os, by have := h.n0; omega, h.t0⟩, K⟩
theorem Fw.bank (h : Fw base w0 w b gb m p r c g f cs cnt a) : Calls Tryz.prog 20 #[.pointer (some ⟨m, 0, none⟩)] w fun e w' => e = .returned (.pointer (some ⟨p, 0, none⟩)) ∧ w' = w := bank_any m p r c cs cnt a w h.st.mm
theorem Fw.count (h : Fw base w0 w b gb m p r c g f cs cnt a) : Calls Tryz.prog 40 #[.pointer (some ⟨p, 0, none⟩)] w fun e w' => e = .returned (.int .i64 cnt) ∧ w' = w := count_any p r cs cnt a w h.st.mm.bk
theorem Fw.cells (h : Fw base w0 w b gb m p r c g f cs cnt a) : Calls Tryz.prog 39 #[.pointer (some ⟨p, 0, none⟩)] w fun e w' => ∃ q, e = .returned (.slice (some ⟨q, 0, none⟩) cs.length cs.length) ∧ Row w' q cs ∧ Kept [] w w' :=
  (cells_any p r cs cnt a w h.st.mm.bk).mono fun _ _ hh => ⟨_, hh.1, hh.2.1, hh.2.2⟩
end
end K
end Go.Proofs.YtgafmklfpiipcaaGreatDoor
namespace Go.Proofs.YtgafmklfpiipcaaGreatDoor
open Go.RowKit (Grown Hid Below)
open Go.Deep
namespace K
set_option maxRecDepth 100000
theorem nw_vl2 {n j : Nat} (hn : n < 4294967296) (b : Bool) : vlB (nw n j b) = decide (j ≤ n) := by
  cases b
  · exact nw_vl hn
  · unfold nw
    by_cases h : j ≤ n
    · rw [if_pos h, decide_eq_true h]
      unfold vlB hw
      rw [show ((9223372036854775808 + (j : Int)) + (if true = true then 4611686018427387904 else 0)) / 4294967296 / 1073741824 = 3 by simp; omega]; rfl
    · rw [if_neg h, decide_eq_false h]; rfl
theorem nw_ix {n j : Nat} (hn : n < 4294967296) (h : j ≤ n) (b : Bool) : ixV (nw n j b) = j := by
  unfold nw; rw [if_pos h]
  cases b
  · simp only [Bool.false_eq_true, if_false, Int.add_zero]; exact hw_ix (by omega)
  · unfold ixV hw; simp; omega
theorem nin2 {x a b : Nat} (h1 : ¬ x = a) (h2 : ¬ x = b) : x ∉ [a, b] := by simp [h1, h2]
/-- Where a walk is that is not between. -/
def Pst (p s j : Nat) : Prop := j ≤ p ∨ s ≤ j
theorem Iv.level {c : Cfg} {l : Nd} {k : Int} {cs : List Int} {f : Fm} {N : Nat → Nat → Nat} {rp rs : Nat → Nat} {pp : Nat} (ok : l.ok c) (h : Iv c l k cs f N rp rs pp) (hd : f.d = true) {L : Nat} (hL : L < HN c) :
    ∃ p s, Pst p s (N L 0) ∧ (N L 0 ≤ l.n → On l L (N L 0)) ∧ (∀ j, On l L j → Pst p s j → Pst p s (N L j) ∧ (N L j ≤ l.n → On l L (N L j))) ∧ ∀ i, 1 ≤ i → i ≤ l.n → l.K i = k → ¬ Live l L i → ¬ Pst p s i := by
  have hdn := h.done hd
  have r := h.res (HN c - 1 - L) (by omega)
  rw [show HN c - 1 - (HN c - 1 - L) = L by omega] at r
  have o0 : On l L 0 := ⟨Nat.zero_le _, by have := ok.h0.1; omega⟩
  refine ⟨rp (HN c - 1 - L), rs (HN c - 1 - L), r.past h.sk o0 (Or.inl (Nat.zero_le _)), h.sk.on L 0 o0, fun j hj hp => ⟨r.past h.sk hj hp, h.sk.on L j hj⟩, fun i i1 i2 e hl => r.between ok h.sk i1 i2 e hl⟩
end K
end Go.Proofs.YtgafmklfpiipcaaGreatDoor
namespace Go.Proofs.YtgafmklfpiipcaaGreatDoor
set_option maxRecDepth 100000
open Go.ChangeShapes Go.WideShapes Go.ChangeAt Go.RowKit
open Go.Deep
namespace K
section
variable {H : Type} {enc : TypeId × Value → H} {w : World}
theorem open_slice_cells {α : Type} (x0 : α) {n fuel : Nat} {t e : TypeId} {cs : List Value} {x : DataW H × List MemPlace} {ks : List Lk} (f : α → List Value) (G : α → Prop) (ht : Tryz.prog.underlying t = some (.slice e)) (hf : flat Tryz.prog n e = some ks) (hc : Tryz.prog.cellsOf e = ks.length)
    (hpos : 0 < ks.length) (hG : ∀ cs, F2 ks cs → ∃ x, cs = f x ∧ G x) (hd : DataW.trod enc Tryz.prog w 0 (fun _ => true) true fuel t cs = some x) :
    ∃ ao cap xs, cs = [.slice ao (List.length xs) cap] ∧ SlOf ks.length f w ao xs ∧ (∀ x ∈ xs, G x) := by
  have : Inhabited α := ⟨x0⟩
  rcases Deep.open_slice ht hd with ⟨hcs, hx⟩ | ⟨ad, len, cap, m, n', D, Pl, hcs, hb, hl, hm, hmm, hx, hall⟩
  · exact ⟨none, 0, [], hcs, fun h => absurd h (by simp), by simp⟩
  · have hml : len ≤ m := by rw [hmm]; split <;> omega
    have each : ∀ i, i < len → ∃ x : α, (G x ∧ (f x).length = ks.length) ∧ ∀ j v, (f x)[j]? = some v → w.cell? (ad.add (i * ks.length + j)) = some v := by
      intro i hi
      obtain ⟨cs', h1, h2⟩ := hall i (by omega)
      have hF := flat_trod n hf h2
      obtain ⟨x, rfl, hg⟩ := hG cs' hF
      refine ⟨x, ⟨hg, (F2_length hF).symm⟩, fun j v hj => ?_⟩
      rw [hc] at h1
      have h3 := (World.cells?_some h1).2.2 j (by rw [F2_length hF]; exact (List.getElem?_eq_some_iff.1 hj).1)
      rw [hj, Deep.add_add] at h3
      exact h3
    obtain ⟨X, hX⟩ := choose_lt each
    have hlenX : ((List.range len).map X).length = len := by simp
    refine ⟨some ad, cap, (List.range len).map X, by rw [hlenX]; exact hcs, ?_, ?_⟩
    · intro h0
      rw [hlenX] at h0
      obtain ⟨b, off, spot⟩ := ad
      have c0 : ∃ v, (f (X 0))[0]? = some v := ⟨_, List.getElem?_eq_getElem (by have := (hX 0 h0).1.2; omega)⟩
      obtain ⟨v0, hv0⟩ := c0
      have hc0 := (hX 0 h0).2 0 v0 hv0
      have hspot : spot = none := by
        have := World.cell?_spot hc0
        rw [Nat.zero_mul] at this; simpa [Addr.add] using this
      subst hspot
      refine ⟨b, off, rfl, ?_, fun i hi j v hj => ?_⟩
      · have := lt_of_cell hc0; rwa [add_block] at this
      · rw [hlenX] at hi
        have := (hX i hi).2 j v (by simpa using hj)
        rw [add_plain] at this
        rw [Nat.add_assoc]; exact this
    · intro x hx; obtain ⟨i, hi, rfl⟩ := List.mem_map.1 hx; exact (hX i (by simpa using hi)).1.1
theorem flat_nn : flat Tryz.prog 3 82 = some [.int .u64, .int .u64, .int .i64, .int .i64, .bool] := by kernel_rfl
theorem cells_nn : Tryz.prog.cellsOf 82 = 5 := by kernel_rfl
theorem nn_cells {cs : List Value} (h : F2 [.int .u64, .int .u64, .int .i64, .int .i64, .bool] cs) : ∃ p : Nn, cs = nnL p ∧ p.wf := by
  obtain ⟨a0, r, rfl, w0, h⟩ := F2_int h
  obtain ⟨a1, r, rfl, w1, h⟩ := F2_int h
  obtain ⟨a2, r, rfl, _, h⟩ := F2_int h
  obtain ⟨a3, r, rfl, _, h⟩ := F2_int h
  obtain ⟨a4, r5, e5, h5⟩ := F2_bool h
  subst e5
  obtain rfl := F2_nil h5
  have b0 := bounds_u64 w0
  have b1 := bounds_u64 w1
  refine ⟨⟨a0, a1, a2, a3, a4⟩, rfl, ?_⟩
  unfold Nn.wf
  show (0 ≤ a0 ∧ a0 < 18446744073709551616) ∧ 0 ≤ a1 ∧ a1 < 18446744073709551616
  omega
theorem open_nodes {r : Reach} {b0 : Nat} {v : Value} {d : DataW H} {p : List MemPlace} (hv : Value.okWide Tryz.prog w r b0 83 v) (h : DataW.Trod enc Tryz.prog w 0 (fun _ => true) true 83 v d p) :
    ∃ (ao : Option Addr) (cap : Nat) (ns : List Nn), v = .slice ao (List.length ns) cap ∧ SlOf 5 nnL w ao ns ∧ (∀ x ∈ ns, x.wf) := by
  have : Inhabited Nn := ⟨nn0⟩
  obtain ⟨ao, cap, xs, e, S, G, _⟩ := open_slice_of (ks := [.int .u64, .int .u64, .int .i64, .int .i64, .bool]) nnL Nn.wf Tryz.underlying83 flat_nn cells_nn (by decide) (fun cs hF => nn_cells hF) hv h
  exact ⟨ao, cap, xs, e, S, G⟩
/-- Ahead of which steps the clock goes on. -/
def iwC (x : Int) : List Value := [.int .i64 x]
theorem flat_iw : flat Tryz.prog 3 3 = some [.int .i64] := by kernel_rfl
theorem cells_iw : Tryz.prog.cellsOf 3 = 1 := by kernel_rfl
theorem iw_cells {cs : List Value} (h : F2 [.int .i64] cs) : ∃ p : Int, cs = iwC p ∧ True := by
  obtain ⟨a0, r, rfl, w0, h⟩ := F2_int h
  obtain rfl := F2_nil h
  exact ⟨a0, rfl, trivial⟩
def tkA (k : Int) (ao : Option Addr) (n cap : Nat) : Array Value := #[.int .u64 k, .slice ao n cap]
/-- What is written meanwhile. -/
structure Pk where
  s : Int
  c : Int
  v : Int
def pkL (p : Pk) : List Value := [.int .i64 p.s, .int .i64 p.c, .int .u64 p.v]
def pk0 : Pk := ⟨0, 0, 0⟩
theorem flat_pk : flat Tryz.prog 3 91 = some [.int .i64, .int .i64, .int .u64] := by kernel_rfl
theorem cells_pk : Tryz.prog.cellsOf 91 = 3 := by kernel_rfl
def Pk.wf (p : Pk) : Prop := 0 ≤ p.v ∧ p.v < 18446744073709551616
theorem pk_cells {cs : List Value} (h : F2 [.int .i64, .int .i64, .int .u64] cs) : ∃ p : Pk, cs = pkL p ∧ p.wf := by
  obtain ⟨a0, r, rfl, _, h⟩ := F2_int h
  obtain ⟨a1, r, rfl, _, h⟩ := F2_int h
  obtain ⟨a2, r, rfl, w2, h⟩ := F2_int h
  obtain rfl := F2_nil h
  have := bounds_u64 w2
  exact ⟨⟨a0, a1, a2⟩, rfl, by unfold Pk.wf; show 0 ≤ a2 ∧ a2 < 18446744073709551616; omega⟩
/-- A key, a thread, how many steps, and what is written. -/
def plA (k t st : Int) (ao : Option Addr) (n cap : Nat) : Array Value := #[.int .u64 k, .int .i64 t, .int .i64 st, .slice ao n cap]
end
end K
end Go.Proofs.YtgafmklfpiipcaaGreatDoor
namespace Go.Proofs.YtgafmklfpiipcaaGreatDoor
open Go.RowKit (Grown Hid Below intOf)
open Go.Deep
namespace K
set_option maxRecDepth 100000
theorem rof1_any (i G : Int) (w : World) (h : 0 ≤ G ∧ G ≤ 1073741823) (h2 : 0 ≤ i ∧ i ≤ 1000) : Calls Tryz.prog 25 #[.int .i64 i, .int .i64 G] w fun e w' => e = .returned (.int .u64 (packV i G false)) ∧ Kept [] w w' := by
  have ME := hidOf (fun W => rpack_yes i G false W (by unfold fitB; simp; omega))
  go_enter Tryz.func25, Tryz.ntmps25
  go_wp2_with fail
  refine (ME.out _).mono ?_
  rintro e w1 ⟨rfl, K1⟩
  go_wp2
  go_ret
  exact ⟨rfl, K1⟩
theorem pack_hw (i : Nat) : packV i 0 false = hw i := by unfold packV hw; simp; omega
theorem nn_row {w : World} {ao : Option Addr} {ns : List Nn} (h : SlOf 5 nnL w ao ns) {k : Nat} (hk : k < ns.length) :
    ∃ b off, ao = some ⟨b, off, none⟩ ∧ b < w.heap.size ∧ w.cell? ⟨b, off + k * 5, none⟩ = some (.int .u64 (ns.getD k nn0).k) ∧ w.cell? ⟨b, off + k * 5 + 1, none⟩ = some (.int .u64 (ns.getD k nn0).v) ∧ w.cell? ⟨b, off + k * 5 + 2, none⟩ = some (.int .i64 (ns.getD k nn0).t) ∧ w.cell? ⟨b, off + k * 5 + 3, none⟩ = some (.int .i64 (ns.getD k nn0).m) ∧ w.cell? ⟨b, off + k * 5 + 4, none⟩ = some (.bool (ns.getD k nn0).d) := by
  obtain ⟨b, off, rfl, hb, hc⟩ := h (by omega)
  have e : ns.getD k nn0 = ns[k] := by simp [hk]
  rw [e]
  exact ⟨b, off, rfl, hb, hc k hk 0 _ rfl, hc k hk 1 _ rfl, hc k hk 2 _ rfl, hc k hk 3 _ rfl, hc k hk 4 _ rfl⟩
theorem nxt_step (c : Cfg) (ns : List Nn) (L j m : Nat) (hm : j + m + 1 = ns.length) : nxt (ndOf c ns) L (ns.length - j) (j + 1) = if (L : Int) < (ns.getD j nn0).t then j + 1 else nxt (ndOf c ns) L (ns.length - (j + 1)) (j + 1 + 1) := by
  rw [show ns.length - j = m + 1 by omega, show ns.length - (j + 1) = m by omega]
  show (if L < (if j + 1 = 0 then HN c else (ns.getD (j + 1 - 1) nn0).t.toNat) then j + 1 else nxt (ndOf c ns) L m (j + 1 + 1)) = _
  rw [if_neg (show ¬ j + 1 = 0 by omega), show j + 1 - 1 = j by omega]
  by_cases h : (L : Int) < (ns.getD j nn0).t
  · rw [if_pos h, if_pos (by omega)]
  · rw [if_neg h, if_neg (by omega)]
set_option maxHeartbeats 4000000 in
theorem behind_any (c : Cfg) (ns : List Nn) (ao : Option Addr) (n cap : Nat) (a : Int) (i L : Nat) (w : World) (hs : SlOf 5 nnL w ao ns) (hn : n = ns.length) (ha : a + 1 = i) (hi : i ≤ n) (h64 : n ≤ 64) :
    Calls Tryz.prog 51 #[.slice ao n cap, .int .i64 a, .int .i64 L] w fun e w' => e = .returned (.int .u64 (nw n (N0 (ndOf c ns) L i) false)) ∧ Kept [] w w' := by
  obtain ⟨R, hR⟩ : ∃ R, N0 (ndOf c ns) L i = R := ⟨_, rfl⟩
  have H0 : Hid (nxt (ndOf c ns) L (ns.length - i) (i + 1) = R) := hidOf hR
  rw [hR]
  have HN := hidOf hn
  have HS := hidOf hs
  have ha2 : a = (i : Int) - 1 := by omega
  subst ha2
  clear hn hs hR ha
  have hi64 : (i : Int) ≤ 64 := by omega
  go_enter Tryz.func51, Tryz.ntmps51
  go_wp2
  go_loopw [7] (fun s wr => ∃ (j : Nat), j ≤ n ∧ s = .int .i64 j ∧ Kept [] w wr ∧ Hid (nxt (ndOf c ns) L (ns.length - j) (j + 1) = R)) (fun s _ => n - (intOf s).toNat)
  case atStart => exact ⟨i, hi, by first | rfl | go_num | (congr 1; omega), Kept.refl _ _, H0.out⟩
  case round =>
    clear H0
    obtain ⟨j, hj, rfl, KR, HJ⟩ := hrel
    by_cases hlt : j < n
    · have hltz : (j : Int) < (n : Int) := by omega
      obtain ⟨b1, o1, e1, l1, s0, s1, s2, s3, s4⟩ := nn_row (HS.out.new KR) (k := j) (by rw [← HN.out]; exact hlt)
      have NX := hidOf (nxt_step c ns L j (n - j - 1) (by have := HN.out; omega))
      generalize (ns.getD j nn0).t = t at s2 NX
      clear s0 s1 s3 s4
      rw [e1]
      by_cases ht : (L : Int) < t
      · have HR : Hid (R = j + 1) := hidOf (by have z := HJ.out; rw [NX.out, if_pos ht] at z; exact z.symm)
        clear NX HJ
        go_wp2_with fail
        refine (rof1_any _ 0 _ (by omega) (by omega)).mono ?_
        rintro e w1 ⟨rfl, K1⟩
        go_wp2
        go_ret
        refine ⟨?_, KR.trans K1⟩
        rw [HR.out, nw_hw (by omega)]
        have z := pack_hw (j + 1)
        rw [← z]; rfl
      · have HR : Hid (nxt (ndOf c ns) L (ns.length - (j + 1)) (j + 1 + 1) = R) := hidOf (by have z := HJ.out; rw [NX.out, if_neg ht] at z; exact z)
        clear NX HJ
        go_wp2
        go_roundw
        case rel => exact ⟨j + 1, by omega, by go_num, KR, HR.out⟩
        case measure => simp [intOf]; omega
    · have hje : j = n := by omega
      have hjz : ¬ (j : Int) < (n : Int) := by omega
      have HR : Hid (R = n + 1) := hidOf (by have z := HJ.out; rw [hje, HN.out, Nat.sub_self] at z; rw [← z, HN.out]; rfl)
      clear HJ hje
      go_wp2
      go_ret
      refine ⟨?_, KR⟩
      rw [HR.out]
      unfold nw
      rw [if_neg (by omega)]; rfl
end K
end Go.Proofs.YtgafmklfpiipcaaGreatDoor
namespace Go.Proofs.YtgafmklfpiipcaaGreatDoor
open Go.RowKit (Grown Hid Below intOf)
open Go.Deep
namespace K
set_option maxRecDepth 100000
theorem isT_nn : IsT 82 5 := ⟨by kernel_rfl, _, Tryz.underlying82⟩
/-- What holds while nodes are laid: the configuration's box, the row. -/
structure Ly (w0 w : World) (q g cap : Nat) (c : Cfg) (cs : List Int) : Prop where
  cb : RW 23 w q #[.int .i64 c.t, .int .i64 c.s, .int .i64 c.c, .int .i64 c.h, .int .i64 c.k, .int .i64 c.e, .int .i64 c.l]
  row : RowR w g cs cap
  kp : Kept [] w0 w
  g0 : w0.heap.size ≤ g
  len : cs.length = lnN c
theorem Ly.new {w0 w w' : World} {q g cap : Nat} {c : Cfg} {cs : List Int} (h : Ly w0 w q g cap c cs) (k : Kept [] w w') : Ly w0 w' q g cap c cs := ⟨h.cb.kept k (by simp), h.row.kept k (by simp), h.kp.trans k, h.g0, h.len⟩
theorem Ly.set {w0 w : World} {q g cap : Nat} {c : Cfg} {cs : List Int} (h : Ly w0 w q g cap c cs) {X : Nat} {i f : Int} (hX : clV' c i f = X) (hl : X < lnN c) (v : Int) : Ly w0 (w.setCell ⟨g, X, none⟩ (.int .u64 v)) q g cap c (stW c cs i f v) := by
  have e : stW c cs i f v = cs.set X v := by unfold stW; rw [hX]; rfl
  have ks := (Kept.refl [g] w).setCell (p := ⟨g, X, none⟩) (Or.inl (by simp)) (.int .u64 v)
  have ne : ¬ q = g := by
    obtain ⟨rest, z, _⟩ := h.row
    intro e; have y := h.cb; unfold RW at y; rw [e, z] at y; simp at y
  rw [e]
  exact ⟨h.cb.kept ks (by simp; exact ne), h.row.set (by rw [h.len]; exact hl) v, h.kp.then ks (by simp; have := h.g0; omega), h.g0, by simp; exact h.len⟩
theorem mark_nw {n j : Nat} (hn : n < 4294967296) : markV (nw n j false) = nw n j true := by
  rw [(markV_of _).2 (nw_mk hn false)]; unfold nw; simp
theorem cell_at {c : Cfg} {i f : Int} (h : inF c i f) : ∃ X : Nat, clV' c i f = X ∧ X < lnN c := by
  have z := cl_has (cs := List.replicate (lnN c) 0) (by simp [lnN_eq]) h
  unfold hasC at z
  simp at z
  exact ⟨(clV' c i f).toNat, by omega, by omega⟩
theorem ly_row {w0 w : World} {q g cap : Nat} {c : Cfg} {cs : List Int} (h : Ly w0 w q g cap c cs) {X : Nat} (hl : X < lnN c) : ∃ v, w.cell? ⟨g, X, none⟩ = some v := ⟨_, h.row.cell (i := X) (by rw [h.len]; exact hl)⟩
set_option maxHeartbeats 8000000 in
theorem lay_any (c : Cfg) (ns : List Nn) (ao : Option Addr) (k cap : Nat) (w : World) (h : RightN c ns) (hw : ∀ x ∈ ns, x.wf) (hs : SlOf 5 nnL w ao ns) (hk : k = ns.length) :
    Calls Tryz.prog 24 #[.agg #[.int .i64 c.t, .int .i64 c.s, .int .i64 c.c, .int .i64 c.h, .int .i64 c.k, .int .i64 c.e, .int .i64 c.l], .slice ao k cap] w fun e w' => ∃ g c', e = .returned (.slice (some ⟨g, 0, none⟩) (lnN c) c') ∧ w.heap.size ≤ g ∧ RowR w' g (layV c ns) c' ∧ Kept [] w w' := by
  have R := riB_true.1 h.r
  have HR := hidOf h
  have HW := hidOf hw
  have HS := hidOf hs
  have HK := hidOf hk
  have hh := HN_eq R
  have k64 : (k : Int) ≤ 64 := by have := h.n; have := R.c1; omega
  have h6 : c.h ≤ 6 ∧ 1 ≤ c.h := ⟨R.h1, R.h0⟩
  obtain ⟨n, hn⟩ : ∃ n, n = lnN c := ⟨_, rfl⟩
  have NW : Hid (∀ W : World, Calls Tryz.prog 50 #[.agg #[.int .i64 c.t, .int .i64 c.s, .int .i64 c.c, .int .i64 c.h, .int .i64 c.k, .int .i64 c.e, .int .i64 c.l]] W fun e w' => ∃ g, e = .returned (.agg (rmA c (some ⟨g, 0, none⟩) n n 0 Acc.zero)) ∧ W.heap.size ≤ g ∧ Row w' g (fcV c) ∧ Kept [] W w') := hidOf (fun W => by rw [hn]; exact rmnew_any c W h.r)
  rw [← hn]
  have HLN := hidOf hn
  clear hn
  obtain ⟨q, hq⟩ : ∃ q, q = w.heap.size := ⟨_, rfl⟩
  have BX : Hid (RW 23 (w.alloc (.cells #[.int .i64 c.t, .int .i64 c.s, .int .i64 c.c, .int .i64 c.h, .int .i64 c.k, .int .i64 c.e, .int .i64 c.l] 23)) q #[.int .i64 c.t, .int .i64 c.s, .int .i64 c.c, .int .i64 c.h, .int .i64 c.k, .int .i64 c.e, .int .i64 c.l] ∧ Kept [] w (w.alloc (.cells #[.int .i64 c.t, .int .i64 c.s, .int .i64 c.c, .int .i64 c.h, .int .i64 c.k, .int .i64 c.e, .int .i64 c.l] 23))) := by rw [hq]; exact ⟨RW.new _ _ _, (Kept.refl [] w).alloc _⟩
  have HH := hidOf (And.intro hh h6)
  clear h hw hs hk R hh h6
  go_enter Tryz.func24, Tryz.ntmps24
  go_upto_region 1 with (fail)
  rw [← hq]
  refine gen_world (fun W => RW 23 W q #[.int .i64 c.t, .int .i64 c.s, .int .i64 c.c, .int .i64 c.h, .int .i64 c.k, .int .i64 c.e, .int .i64 c.l] ∧ Kept [] w W) BX.out ?_
  have hqw : w.heap.size ≤ q := by omega
  clear BX hq
  rintro W ⟨CB0, K0⟩
  have HCB := hidOf CB0
  have HK0 := hidOf K0
  clear CB0 K0
  go_wp2_with (first | ((with_reducible change wpList _ _ _ (Oper.mk _ (Op.load 23 (Operand.tmp 2)) _ _ _ _ :: _) _ _); refine wpList_load_rw 23 isT_cf rfl (.tmp 2) rfl q rfl #[.int .i64 c.t, .int .i64 c.s, .int .i64 c.c, .int .i64 c.h, .int .i64 c.k, .int .i64 c.e, .int .i64 c.l] rfl HCB.out ?_))
  refine (NW.out W).mono ?_
  rintro e w1 ⟨g, rfl, hg, RG, K1⟩
  have HX1 := hidOf (And.intro hg (And.intro RG K1))
  clear hg RG K1 NW
  obtain ⟨qm, hqm⟩ : ∃ qm, qm = w1.heap.size := ⟨_, rfl⟩
  go_upto_region 2 with (first | ((with_reducible change wpList _ _ _ (Oper.mk _ (Op.store 35 _ _) _ _ _ _ :: _) _ _); refine wpList_store_rw 35 isT_rm rfl (.tmp 5) (.tmp 13) rfl w1.heap.size (rmA c (some ⟨g, 0, none⟩) n n 0 Acc.zero) rfl rfl rfl (rm_one _ _ _ _ _ _) rmZ (RW.new 35 w1 rmZ) rfl ?_))
  rw [← hqm]
  refine gen_world (fun V => RW 35 V qm (rmA c (some ⟨g, 0, none⟩) n n 0 Acc.zero) ∧ Kept [] w1 V) ?_ ?_
  · rw [hqm]; exact ⟨(RW.new 35 w1 rmZ).row _, ((Kept.refl [] w1).alloc _).setRow (Or.inr (Nat.le_refl _)) _⟩
  clear hqm
  rintro V ⟨QM, KV⟩
  have RV := Row.kept HX1.out.2.1 KV (by simp)
  have eln : n = (fcV c).length := by rw [fcV_len]; exact HLN.out
  obtain ⟨g2, c2, w2, hap, hg2, R2, K2⟩ := append_new 24 V (some ⟨g, 0, none⟩) (fcV c) n n eln RV.sl (fun e => by cases e) (by have := lnN_le c; rw [← eln, HLN.out]; omega)
  have L0 : Ly w w2 q g2 c2 c (lyHd c (ndOf c ns) (fcV c) 0) := ⟨((HCB.out.kept HX1.out.2.2 (by simp)).kept KV (by simp)).kept K2 (by simp), R2, ((HK0.out.trans HX1.out.2.2).trans KV).trans K2, by have := KV.size; have := HX1.out.2.2.size; have := HK0.out.size; omega, fcV_len c⟩
  have HL0 := hidOf L0
  have q7 := cell_of_blk QM (i := 7) (v := .slice (some ⟨g, 0, none⟩) n n) rfl
  have hqV := lt_of_blk QM
  clear L0 R2 K2 hg2 QM RV KV HX1 HCB eln
  go_wp2_with (first | (at_builtin; refine wpList_append_run rfl (.tmp 14) (.tmp 17) 24 rfl rfl rfl hap ?_))
  clear hap q7 hqV
  go_loopw [7] (fun s wr => ∃ M : Nat, M ≤ HN c ∧ s = .int .i64 M ∧ Ly w wr q g2 c2 c (lyHd c (ndOf c ns) (fcV c) M)) (fun s _ => HN c - (intOf s).toNat)
  case atStart => exact ⟨0, by omega, by first | rfl | go_num, HL0.out⟩
  case round =>
    clear HL0
    obtain ⟨M, hM, rfl, L⟩ := hrel
    have HL := hidOf L
    clear L
    have p3 := cell_of_blk HL.out.cb (i := 3) (v := .int .i64 c.h) rfl
    by_cases hlt : M < HN c
    · have hltz : (M : Int) < c.h := by have := HH.out.1; omega
      obtain ⟨X, hX, hXl⟩ := cell_at (c := c) (i := 0) (f := ((6 + M : Nat) : Int)) ⟨HR.out.r, by omega, by have := (riB_true.1 HR.out.r).c0; omega, by omega, by have := HH.out; omega⟩
      have hX2 : clV' c 0 (6 + (M : Int)) = X := by rw [show 6 + (M : Int) = ((6 + M : Nat) : Int) by omega]; exact hX
      have CX := hidOf (fun W' => rcell_is hX2 W')
      have HXX := hidOf (And.intro hX hXl)
      have HXn : (X : Int) < n := by have := HLN.out; omega
      have VV : Hid (nw k (N0 (ndOf c ns) M 0) false = nw (ndOf c ns).n (N0 (ndOf c ns) M 0) false) := hidOf (by rw [HK.out]; rfl)
      have BH := hidOf (fun (W' : World) (kk : Kept [] w W') => behind_any c ns ao k cap (-1) 0 M W' (HS.out.new kk) HK.out (by omega) (by omega) (by omega))
      generalize nw k (N0 (ndOf c ns) M 0) false = V9 at BH VV
      clear hX hXl hX2
      have hM6 : (M : Int) ≤ 6 := by have := HH.out; omega
      go_wp2_with (first | ((with_reducible change wpList _ _ _ (Oper.mk _ (Op.load 23 (Operand.tmp 2)) _ _ _ _ :: _) _ _); refine wpList_load_rw 23 isT_cf rfl (.tmp 2) rfl q rfl #[.int .i64 c.t, .int .i64 c.s, .int .i64 c.c, .int .i64 c.h, .int .i64 c.k, .int .i64 c.e, .int .i64 c.l] rfl HL.out.cb ?_))
      refine (CX.out wr).mono ?_
      rintro e w3 ⟨rfl, K3⟩
      have HL3 := hidOf (HL.out.new K3)
      clear K3 p3 HL CX
      go_wp2_with fail
      refine (BH.out w3 HL3.out.kp).mono ?_
      rintro e w4 ⟨rfl, K4⟩
      have HL4 := hidOf (HL3.out.new K4)
      obtain ⟨v9, cx⟩ := ly_row HL4.out HXX.out.2
      have cf := HL4.out.row.free X
      have cl := HL4.out.row.lt
      clear K4 HL3 BH
      go_wp2
      go_roundw
      case rel =>
        have z := HL4.out.set HXX.out.1 HXX.out.2 V9
        rw [VV.out] at z ⊢
        exact ⟨M + 1, by omega, by go_num, z⟩
      case measure => simp [intOf]; omega
    · have hME : M = HN c := by omega
      have hltz : ¬ (M : Int) < c.h := by have := HH.out.1; omega
      subst hME
      go_wp2
      go_loopw [8] (fun s wr => ∃ j : Nat, j ≤ k ∧ s = .int .i64 j ∧ Ly w wr q g2 c2 c (lyAll c ns j)) (fun s _ => k - (intOf s).toNat)
      case atStart => exact ⟨0, by omega, by first | rfl | go_num, HL.out⟩
      case round =>
        clear HL p3
        obtain ⟨j, hj, rfl, L⟩ := hrel
        have HL := hidOf L
        clear L
        by_cases hlt : j < k
        · have hltz : (j : Int) < (k : Int) := by omega
          obtain ⟨b1, o1, e1, l1, s0, s1, s2, s3, s4⟩ := nn_row (HS.out.new HL.out.kp) (k := j) (by rw [← HK.out]; exact hlt)
          obtain ⟨x, hx⟩ : ∃ x, x = ns.getD j nn0 := ⟨_, rfl⟩
          rw [← hx] at s0 s1 s2 s3 s4
          have HXE := hidOf hx
          have nb1 := HR.out.b j (by rw [← HK.out]; exact hlt)
          have wf1 : x.wf := by
            rw [hx]
            have e : ns.getD j nn0 = ns[j]'(by rw [← HK.out]; exact hlt) := by simp [show j < ns.length by rw [← HK.out]; exact hlt]
            rw [e]; exact HW.out _ (List.getElem_mem _)
          rw [← hx] at nb1
          have HNB := hidOf (And.intro nb1 wf1)
          have v0 := wf1.2.1
          have v1 : x.v < 9223372036854775808 := nb1.2.2.2.2.2
          have t0 : 0 ≤ x.t := by have := nb1.1; omega
          have t1 : x.t ≤ 6 := by have := nb1.2.1; have := HH.out; omega
          have ew : IntKind.i64.wrap ((j : Int) + 1) = (j : Int) + 1 := by rw [IntKind.wrap_i64]; omega
          have HEW := hidOf ew
          clear ew
          have HJ := hidOf (show ((j : Nat) : Int) + 1 ≤ c.c by have := HR.out.n; have := HK.out; omega)
          clear hx nb1 wf1
          rw [e1]
          obtain ⟨nb, hnb⟩ : ∃ nb, nb = wr.heap.size := ⟨_, rfl⟩
          go_upto_region 11 with (fail)
          rw [← hnb]
          refine gen_world (fun U => Ly w U q g2 c2 c (lyAll c ns j) ∧ RW 82 U nb (nnA x)) ?_ ?_
          · rw [hnb]; exact ⟨HL.out.new ((Kept.refl [] wr).alloc _), RW.new 82 wr (nnA x)⟩
          have HNE := hidOf (show ¬ q = g2 ∧ ¬ nb = g2 from ⟨by
            obtain ⟨rest, z, _⟩ := HL.out.row
            intro e; have y := HL.out.cb; unfold RW at y; rw [e, z] at y; simp at y, by have := HL.out.row.lt; omega⟩)
          have HWW := hidOf (show Kept [] w wr from HL.out.kp)
          clear hnb s0 s1 s2 s3 s4 l1 HL
          rintro U ⟨UL, UB⟩
          have HU := hidOf (And.intro UL UB)
          clear UL UB
          obtain ⟨X, hX, hXl⟩ := cell_at (c := c) (i := ((j : Nat) : Int) + 1) (f := 0) ⟨HR.out.r, by omega, by have := HJ.out; omega, by omega, by have := HH.out; omega⟩
          have CX := hidOf (fun W' => rcell_is hX W')
          have HXX := hidOf (And.intro hX hXl)
          have HXn : (X : Int) < n := by have := HLN.out; omega
          clear hX hXl
          go_wp2_with (first | ((with_reducible change wpList _ _ _ (Oper.mk _ (Op.load 23 (Operand.tmp 2)) _ _ _ _ :: _) _ _); refine wpList_load_rw 23 isT_cf rfl (.tmp 2) rfl q rfl #[.int .i64 c.t, .int .i64 c.s, .int .i64 c.c, .int .i64 c.h, .int .i64 c.k, .int .i64 c.e, .int .i64 c.l] rfl HU.out.1.cb ?_))
          refine (CX.out _).mono ?_
          rintro e w5 ⟨rfl, K5⟩
          have HU5 := hidOf (And.intro (HU.out.1.new K5) (HU.out.2.kept K5 (by simp)))
          clear K5 CX HU
          go_wp2_with fail
          refine (taken0 _).mono ?_
          rintro e w6 ⟨rfl, K6⟩
          have HU6 := hidOf (And.intro (HU5.out.1.new K6) (HU5.out.2.kept K6 (by simp)))
          clear K6 HU5
          have HU5 := HU6
          clear HU6
          obtain ⟨v9, cx⟩ := ly_row HU5.out.1 HXX.out.2
          have cf := HU5.out.1.row.free X
          have cl := HU5.out.1.row.lt
          go_upto_region 12 with (fail)
          refine gen_world (fun U => Ly w U q g2 c2 c (stW c (lyAll c ns j) ((j : Nat) + 1 : Int) 0 1) ∧ RW 82 U nb (nnA x)) ?_ ?_
          · have ks := (Kept.refl [g2] w6).setCell (p := ⟨g2, X, none⟩) (Or.inl (by simp)) (.int .u64 1)
            exact ⟨HU5.out.1.set HXX.out.1 HXX.out.2 1, HU5.out.2.kept ks (by simp; exact HNE.out.2)⟩
          clear HU5 cx cf cl HXX HXn
          rintro U ⟨UL, UB⟩
          have HU := hidOf (And.intro UL UB)
          clear UL UB
          obtain ⟨X, hX, hXl⟩ := cell_at (c := c) (i := ((j : Nat) : Int) + 1) (f := 1) ⟨HR.out.r, by omega, by have := HJ.out; omega, by omega, by have := HH.out; omega⟩
          have CX := hidOf (fun W' => rcell_is hX W')
          have HXX := hidOf (And.intro hX hXl)
          have HXn : (X : Int) < n := by have := HLN.out; omega
          clear hX hXl
          have CY : Hid (∀ W' : World, Kept [] U W' → Calls Tryz.prog 52 #[.agg #[.int .i64 c.t, .int .i64 c.s, .int .i64 c.c, .int .i64 c.h, .int .i64 c.k, .int .i64 c.e, .int .i64 c.l], .int .i64 (IntKind.i64.wrap ((j : Int) + 1)), .int .i64 1] W' fun e w' => e = .returned (.int .i64 X) ∧ Kept [] U w') := hidOf (fun W' kk => by rw [HEW.out]; exact (CX.out W').mono fun _ _ hh => And.intro hh.1 (kk.trans hh.2))
          clear CX
          have SX : Hid (∀ W' : World, Kept [g2] U W' → W'.cell? ⟨q, 0, none⟩ = some (.int .i64 c.t) ∧ W'.cell? ⟨q, 1, none⟩ = some (.int .i64 c.s) ∧ W'.cell? ⟨q, 2, none⟩ = some (.int .i64 c.c) ∧ W'.cell? ⟨q, 3, none⟩ = some (.int .i64 c.h) ∧ W'.cell? ⟨q, 4, none⟩ = some (.int .i64 c.k) ∧ W'.cell? ⟨q, 5, none⟩ = some (.int .i64 c.e) ∧ W'.cell? ⟨q, 6, none⟩ = some (.int .i64 c.l) ∧ W'.cell? ⟨nb, 0, none⟩ = some (.int .u64 x.k)) := hidOf (by
            intro W' kk
            have y := HU.out.1.cb.kept kk (by simp; exact HNE.out.1)
            have z := HU.out.2.kept kk (by simp; exact HNE.out.2)
            exact ⟨cell_of_blk y (i := 0) rfl, cell_of_blk y (i := 1) rfl, cell_of_blk y (i := 2) rfl, cell_of_blk y (i := 3) rfl, cell_of_blk y (i := 4) rfl, cell_of_blk y (i := 5) rfl, cell_of_blk y (i := 6) rfl, cell_of_blk z (i := 0) rfl⟩)
          go_region_held3 (fun W' => W'.cell? ⟨q, 0, none⟩ = some (.int .i64 c.t) ∧ W'.cell? ⟨q, 1, none⟩ = some (.int .i64 c.s) ∧ W'.cell? ⟨q, 2, none⟩ = some (.int .i64 c.c) ∧ W'.cell? ⟨q, 3, none⟩ = some (.int .i64 c.h) ∧ W'.cell? ⟨q, 4, none⟩ = some (.int .i64 c.k) ∧ W'.cell? ⟨q, 5, none⟩ = some (.int .i64 c.e) ∧ W'.cell? ⟨q, 6, none⟩ = some (.int .i64 c.l) ∧ W'.cell? ⟨nb, 0, none⟩ = some (.int .u64 x.k))
            (exact SX.out _ (by (repeat (first | (with_reducible refine Kept.setCell ?_ ?_ _) | (with_reducible refine Kept.alloc ?_ _) | (with_reducible refine Kept.drew ?_))); (first | (with_reducible assumption) | (with_reducible exact Kept.refl _ _) | exact Kept.weaken (l := []) (by with_reducible assumption) (by simp)); all_goals (first | (refine Or.inl ?_; simp; done) | exact Or.inr (Nat.le_refl _))))
            (first | (go_at_call 52; with_reducible refine (CY.out _ (by first | assumption | exact (Kept.refl _ _).drew)).mono ?_; rintro e w5 ⟨rfl, K6⟩
                      have HU5 := hidOf (And.intro (HU.out.1.new K6) (HU.out.2.kept K6 (by simp)))
                      obtain ⟨v9, cx⟩ := ly_row HU5.out.1 HXX.out.2
                      have cf := HU5.out.1.row.free X
                      have cl := HU5.out.1.row.lt))
          clear K6 SX CY HU
          go_upto_region 13 with (fail)
          refine gen_world (fun U => Ly w U q g2 c2 c (stW c (stW c (lyAll c ns j) ((j : Nat) + 1 : Int) 0 1) ((j : Nat) + 1 : Int) 1 x.k) ∧ RW 82 U nb (nnA x)) ?_ ?_
          · have ks := (Kept.refl [g2] w5).setCell (p := ⟨g2, X, none⟩) (Or.inl (by simp)) (.int .u64 x.k)
            exact ⟨HU5.out.1.set HXX.out.1 HXX.out.2 x.k, HU5.out.2.kept ks (by simp; exact HNE.out.2)⟩
          clear HU5 cx cf cl HXX HXn
          rintro U ⟨UL, UB⟩
          have HU := hidOf (And.intro UL UB)
          clear UL UB
          obtain ⟨X, hX, hXl⟩ := cell_at (c := c) (i := ((j : Nat) : Int) + 1) (f := 2) ⟨HR.out.r, by omega, by have := HJ.out; omega, by omega, by have := HH.out; omega⟩
          have CX := hidOf (fun W' => rcell_is hX W')
          have HXX := hidOf (And.intro hX hXl)
          have HXn : (X : Int) < n := by have := HLN.out; omega
          clear hX hXl
          have CY : Hid (∀ W' : World, Kept [] U W' → Calls Tryz.prog 52 #[.agg #[.int .i64 c.t, .int .i64 c.s, .int .i64 c.c, .int .i64 c.h, .int .i64 c.k, .int .i64 c.e, .int .i64 c.l], .int .i64 (IntKind.i64.wrap ((j : Int) + 1)), .int .i64 2] W' fun e w' => e = .returned (.int .i64 X) ∧ Kept [] U w') := hidOf (fun W' kk => by rw [HEW.out]; exact (CX.out W').mono fun _ _ hh => And.intro hh.1 (kk.trans hh.2))
          clear CX
          have SX : Hid (∀ W' : World, Kept [g2] U W' → W'.cell? ⟨q, 0, none⟩ = some (.int .i64 c.t) ∧ W'.cell? ⟨q, 1, none⟩ = some (.int .i64 c.s) ∧ W'.cell? ⟨q, 2, none⟩ = some (.int .i64 c.c) ∧ W'.cell? ⟨q, 3, none⟩ = some (.int .i64 c.h) ∧ W'.cell? ⟨q, 4, none⟩ = some (.int .i64 c.k) ∧ W'.cell? ⟨q, 5, none⟩ = some (.int .i64 c.e) ∧ W'.cell? ⟨q, 6, none⟩ = some (.int .i64 c.l) ∧ W'.cell? ⟨nb, 1, none⟩ = some (.int .u64 x.v)) := hidOf (by
            intro W' kk
            have y := HU.out.1.cb.kept kk (by simp; exact HNE.out.1)
            have z := HU.out.2.kept kk (by simp; exact HNE.out.2)
            exact ⟨cell_of_blk y (i := 0) rfl, cell_of_blk y (i := 1) rfl, cell_of_blk y (i := 2) rfl, cell_of_blk y (i := 3) rfl, cell_of_blk y (i := 4) rfl, cell_of_blk y (i := 5) rfl, cell_of_blk y (i := 6) rfl, cell_of_blk z (i := 1) rfl⟩)
          go_region_held3 (fun W' => W'.cell? ⟨q, 0, none⟩ = some (.int .i64 c.t) ∧ W'.cell? ⟨q, 1, none⟩ = some (.int .i64 c.s) ∧ W'.cell? ⟨q, 2, none⟩ = some (.int .i64 c.c) ∧ W'.cell? ⟨q, 3, none⟩ = some (.int .i64 c.h) ∧ W'.cell? ⟨q, 4, none⟩ = some (.int .i64 c.k) ∧ W'.cell? ⟨q, 5, none⟩ = some (.int .i64 c.e) ∧ W'.cell? ⟨q, 6, none⟩ = some (.int .i64 c.l) ∧ W'.cell? ⟨nb, 1, none⟩ = some (.int .u64 x.v))
            (exact SX.out _ (by (repeat (first | (with_reducible refine Kept.setCell ?_ ?_ _) | (with_reducible refine Kept.alloc ?_ _) | (with_reducible refine Kept.drew ?_))); (first | (with_reducible assumption) | (with_reducible exact Kept.refl _ _) | exact Kept.weaken (l := []) (by with_reducible assumption) (by simp)); all_goals (first | (refine Or.inl ?_; simp; done) | exact Or.inr (Nat.le_refl _))))
            (first | (go_at_call 52; with_reducible refine (CY.out _ (by first | assumption | exact (Kept.refl _ _).drew)).mono ?_; rintro e w5 ⟨rfl, K6⟩
                      have HU5 := hidOf (And.intro (HU.out.1.new K6) (HU.out.2.kept K6 (by simp)))
                      obtain ⟨v9, cx⟩ := ly_row HU5.out.1 HXX.out.2
                      have cf := HU5.out.1.row.free X
                      have cl := HU5.out.1.row.lt))
          clear K6 SX CY HU
          go_upto_region 14 with (fail)
          refine gen_world (fun U => Ly w U q g2 c2 c (stW c (stW c (stW c (lyAll c ns j) ((j : Nat) + 1 : Int) 0 1) ((j : Nat) + 1 : Int) 1 x.k) ((j : Nat) + 1 : Int) 2 (2 * x.v)) ∧ RW 82 U nb (nnA x)) ?_ ?_
          · have ks := (Kept.refl [g2] w5).setCell (p := ⟨g2, X, none⟩) (Or.inl (by simp)) (.int .u64 (2 * x.v))
            rw [show IntKind.u64.wrap (2 * x.v) = 2 * x.v by rw [IntKind.wrap_u64]; omega]
            exact ⟨HU5.out.1.set HXX.out.1 HXX.out.2 (2 * x.v), HU5.out.2.kept ks (by simp; exact HNE.out.2)⟩
          clear HU5 cx cf cl HXX HXn
          rintro U ⟨UL, UB⟩
          have HU := hidOf (And.intro UL UB)
          clear UL UB
          have z4 := cell_of_blk HU.out.2 (i := 4) (v := .bool x.d) rfl
          go_upto_if 69 with (fail)
          clear z4
          go_cut [6] from 34 to 128 (fun s6 U => s6 = .slice (some ⟨g2, 0, none⟩) n c2 ∧ Ly w U q g2 c2 c (stW c (stW c (stW c (lyAll c ns j) ((j : Nat) + 1 : Int) 0 1) ((j : Nat) + 1 : Int) 1 x.k) ((j : Nat) + 1 : Int) 2 (lyV x)) ∧ RW 82 U nb (nnA x))
          case first =>
            cases hd : x.d with
            | true =>
              have eV : lyV x = 2 * x.v + 1 := by unfold lyV; rw [if_pos hd]
              have HDD := hidOf eV
              have hdb : x.d = true := hd
              clear eV hd
              go_upto_region 15 with (fail)
              obtain ⟨X, hX, hXl⟩ := cell_at (c := c) (i := ((j : Nat) : Int) + 1) (f := 2) ⟨HR.out.r, by omega, by have := HJ.out; omega, by omega, by have := HH.out; omega⟩
              have CX := hidOf (fun W' => rcell_is hX W')
              have HXX := hidOf (And.intro hX hXl)
              have HXn : (X : Int) < n := by have := HLN.out; omega
              clear hX hXl
              have CY : Hid (∀ W' : World, Kept [] U W' → Calls Tryz.prog 52 #[.agg #[.int .i64 c.t, .int .i64 c.s, .int .i64 c.c, .int .i64 c.h, .int .i64 c.k, .int .i64 c.e, .int .i64 c.l], .int .i64 (IntKind.i64.wrap ((j : Int) + 1)), .int .i64 2] W' fun e w' => e = .returned (.int .i64 X) ∧ Kept [] U w') := hidOf (fun W' kk => by rw [HEW.out]; exact (CX.out W').mono fun _ _ hh => And.intro hh.1 (kk.trans hh.2))
              clear CX
              have SX : Hid (∀ W' : World, Kept [g2] U W' → W'.cell? ⟨q, 0, none⟩ = some (.int .i64 c.t) ∧ W'.cell? ⟨q, 1, none⟩ = some (.int .i64 c.s) ∧ W'.cell? ⟨q, 2, none⟩ = some (.int .i64 c.c) ∧ W'.cell? ⟨q, 3, none⟩ = some (.int .i64 c.h) ∧ W'.cell? ⟨q, 4, none⟩ = some (.int .i64 c.k) ∧ W'.cell? ⟨q, 5, none⟩ = some (.int .i64 c.e) ∧ W'.cell? ⟨q, 6, none⟩ = some (.int .i64 c.l) ∧ W'.cell? ⟨nb, 1, none⟩ = some (.int .u64 x.v)) := hidOf (by
                intro W' kk
                have y := HU.out.1.cb.kept kk (by simp; exact HNE.out.1)
                have z := HU.out.2.kept kk (by simp; exact HNE.out.2)
                exact ⟨cell_of_blk y (i := 0) rfl, cell_of_blk y (i := 1) rfl, cell_of_blk y (i := 2) rfl, cell_of_blk y (i := 3) rfl, cell_of_blk y (i := 4) rfl, cell_of_blk y (i := 5) rfl, cell_of_blk y (i := 6) rfl, cell_of_blk z (i := 1) rfl⟩)
              go_region_held3 (fun W' => W'.cell? ⟨q, 0, none⟩ = some (.int .i64 c.t) ∧ W'.cell? ⟨q, 1, none⟩ = some (.int .i64 c.s) ∧ W'.cell? ⟨q, 2, none⟩ = some (.int .i64 c.c) ∧ W'.cell? ⟨q, 3, none⟩ = some (.int .i64 c.h) ∧ W'.cell? ⟨q, 4, none⟩ = some (.int .i64 c.k) ∧ W'.cell? ⟨q, 5, none⟩ = some (.int .i64 c.e) ∧ W'.cell? ⟨q, 6, none⟩ = some (.int .i64 c.l) ∧ W'.cell? ⟨nb, 1, none⟩ = some (.int .u64 x.v))
                (exact SX.out _ (by (repeat (first | (with_reducible refine Kept.setCell ?_ ?_ _) | (with_reducible refine Kept.alloc ?_ _) | (with_reducible refine Kept.drew ?_))); (first | (with_reducible assumption) | (with_reducible exact Kept.refl _ _) | exact Kept.weaken (l := []) (by with_reducible assumption) (by simp)); all_goals (first | (refine Or.inl ?_; simp; done) | exact Or.inr (Nat.le_refl _))))
                (first | (go_at_call 52; with_reducible refine (CY.out _ (by first | assumption | exact (Kept.refl _ _).drew)).mono ?_; rintro e w5 ⟨rfl, K6⟩
                          have HU5 := hidOf (And.intro (HU.out.1.new K6) (HU.out.2.kept K6 (by simp)))
                          obtain ⟨v9, cx⟩ := ly_row HU5.out.1 HXX.out.2
                          have cf := HU5.out.1.row.free X
                          have cl := HU5.out.1.row.lt))
              clear K6 SX CY HU
              skip
              go_wp2
              go_meet
              case rel =>
                have ks := (Kept.refl [g2] w5).setCell (p := ⟨g2, X, none⟩) (Or.inl (by simp)) (.int .u64 (2 * x.v + 1))
                rw [show IntKind.u64.wrap (IntKind.u64.wrap (2 * x.v) + 1) = 2 * x.v + 1 by rw [IntKind.wrap_u64, IntKind.wrap_u64]; omega, HDD.out]
                have y := HU5.out.1.set HXX.out.1 HXX.out.2 (2 * x.v + 1)
                have ey : ∀ u v : Int, stW c (stW c (stW c (stW c (lyAll c ns j) ((j : Nat) + 1 : Int) 0 1) ((j : Nat) + 1 : Int) 1 x.k) ((j : Nat) + 1 : Int) 2 u) ((j : Nat) + 1 : Int) 2 v = stW c (stW c (stW c (lyAll c ns j) ((j : Nat) + 1 : Int) 0 1) ((j : Nat) + 1 : Int) 1 x.k) ((j : Nat) + 1 : Int) 2 v := fun u v => by unfold stW; rw [List.set_set]
                rw [ey] at y
                exact ⟨rfl, y, HU5.out.2.kept ks (by simp; exact HNE.out.2)⟩
            | false =>
              have eV : lyV x = 2 * x.v := by unfold lyV; rw [if_neg (by rw [hd]; decide)]
              have HDD := hidOf eV
              have hdb : x.d = false := hd
              clear hd eV
              go_wp2
              go_meet
              case rel => exact ⟨rfl, by rw [HDD.out]; exact HU.out.1, HU.out.2⟩
          case rest =>
            obtain ⟨rfl, UL, UB⟩ := hcut
            clear HU
            have HU := hidOf (And.intro UL UB)
            clear UL UB
            obtain ⟨X, hX, hXl⟩ := cell_at (c := c) (i := ((j : Nat) : Int) + 1) (f := 3) ⟨HR.out.r, by omega, by have := HJ.out; omega, by omega, by have := HH.out; omega⟩
            have CX := hidOf (fun W' => rcell_is hX W')
            have HXX := hidOf (And.intro hX hXl)
            have HXn : (X : Int) < n := by have := HLN.out; omega
            clear hX hXl
            go_wp2_with (first | ((with_reducible change wpList _ _ _ (Oper.mk _ (Op.load 23 (Operand.tmp 2)) _ _ _ _ :: _) _ _); refine wpList_load_rw 23 isT_cf rfl (.tmp 2) rfl q rfl #[.int .i64 c.t, .int .i64 c.s, .int .i64 c.c, .int .i64 c.h, .int .i64 c.k, .int .i64 c.e, .int .i64 c.l] rfl HU.out.1.cb ?_))
            refine (CX.out _).mono ?_
            rintro e w5 ⟨rfl, K5⟩
            have HU5 := hidOf (And.intro (HU.out.1.new K5) (HU.out.2.kept K5 (by simp)))
            clear K5 CX HU
            obtain ⟨v9, cx⟩ := ly_row HU5.out.1 HXX.out.2
            have cf := HU5.out.1.row.free X
            have cl := HU5.out.1.row.lt
            go_upto_region 17 with (fail)
            refine gen_world (fun U => Ly w U q g2 c2 c (stW c (stW c (stW c (stW c (lyAll c ns j) ((j : Nat) + 1 : Int) 0 1) ((j : Nat) + 1 : Int) 1 x.k) ((j : Nat) + 1 : Int) 2 (lyV x)) ((j : Nat) + 1 : Int) 3 1) ∧ RW 82 U nb (nnA x)) ?_ ?_
            · have ks := (Kept.refl [g2] w5).setCell (p := ⟨g2, X, none⟩) (Or.inl (by simp)) (.int .u64 1)
              exact ⟨HU5.out.1.set HXX.out.1 HXX.out.2 1, HU5.out.2.kept ks (by simp; exact HNE.out.2)⟩
            clear HU5 cx cf cl HXX HXn
            rintro U ⟨UL, UB⟩
            have HU := hidOf (And.intro UL UB)
            clear UL UB
            obtain ⟨X, hX, hXl⟩ := cell_at (c := c) (i := ((j : Nat) : Int) + 1) (f := 4) ⟨HR.out.r, by omega, by have := HJ.out; omega, by omega, by have := HH.out; omega⟩
            have CX := hidOf (fun W' => rcell_is hX W')
            have HXX := hidOf (And.intro hX hXl)
            have HXn : (X : Int) < n := by have := HLN.out; omega
            clear hX hXl
            have CY : Hid (∀ W' : World, Kept [] U W' → Calls Tryz.prog 52 #[.agg #[.int .i64 c.t, .int .i64 c.s, .int .i64 c.c, .int .i64 c.h, .int .i64 c.k, .int .i64 c.e, .int .i64 c.l], .int .i64 (IntKind.i64.wrap ((j : Int) + 1)), .int .i64 4] W' fun e w' => e = .returned (.int .i64 X) ∧ Kept [] U w') := hidOf (fun W' kk => by rw [HEW.out]; exact (CX.out W').mono fun _ _ hh => And.intro hh.1 (kk.trans hh.2))
            clear CX
            have SX : Hid (∀ W' : World, Kept [g2] U W' → W'.cell? ⟨q, 0, none⟩ = some (.int .i64 c.t) ∧ W'.cell? ⟨q, 1, none⟩ = some (.int .i64 c.s) ∧ W'.cell? ⟨q, 2, none⟩ = some (.int .i64 c.c) ∧ W'.cell? ⟨q, 3, none⟩ = some (.int .i64 c.h) ∧ W'.cell? ⟨q, 4, none⟩ = some (.int .i64 c.k) ∧ W'.cell? ⟨q, 5, none⟩ = some (.int .i64 c.e) ∧ W'.cell? ⟨q, 6, none⟩ = some (.int .i64 c.l) ∧ W'.cell? ⟨nb, 2, none⟩ = some (.int .i64 x.t)) := hidOf (by
              intro W' kk
              have y := HU.out.1.cb.kept kk (by simp; exact HNE.out.1)
              have z := HU.out.2.kept kk (by simp; exact HNE.out.2)
              exact ⟨cell_of_blk y (i := 0) rfl, cell_of_blk y (i := 1) rfl, cell_of_blk y (i := 2) rfl, cell_of_blk y (i := 3) rfl, cell_of_blk y (i := 4) rfl, cell_of_blk y (i := 5) rfl, cell_of_blk y (i := 6) rfl, cell_of_blk z (i := 2) rfl⟩)
            go_region_held3 (fun W' => W'.cell? ⟨q, 0, none⟩ = some (.int .i64 c.t) ∧ W'.cell? ⟨q, 1, none⟩ = some (.int .i64 c.s) ∧ W'.cell? ⟨q, 2, none⟩ = some (.int .i64 c.c) ∧ W'.cell? ⟨q, 3, none⟩ = some (.int .i64 c.h) ∧ W'.cell? ⟨q, 4, none⟩ = some (.int .i64 c.k) ∧ W'.cell? ⟨q, 5, none⟩ = some (.int .i64 c.e) ∧ W'.cell? ⟨q, 6, none⟩ = some (.int .i64 c.l) ∧ W'.cell? ⟨nb, 2, none⟩ = some (.int .i64 x.t))
              (exact SX.out _ (by (repeat (first | (with_reducible refine Kept.setCell ?_ ?_ _) | (with_reducible refine Kept.alloc ?_ _) | (with_reducible refine Kept.drew ?_))); (first | (with_reducible assumption) | (with_reducible exact Kept.refl _ _) | exact Kept.weaken (l := []) (by with_reducible assumption) (by simp)); all_goals (first | (refine Or.inl ?_; simp; done) | exact Or.inr (Nat.le_refl _))))
              (first | (go_at_call 52; with_reducible refine (CY.out _ (by first | assumption | exact (Kept.refl _ _).drew)).mono ?_; rintro e w5 ⟨rfl, K6⟩
                        have HU5 := hidOf (And.intro (HU.out.1.new K6) (HU.out.2.kept K6 (by simp)))
                        obtain ⟨v9, cx⟩ := ly_row HU5.out.1 HXX.out.2
                        have cf := HU5.out.1.row.free X
                        have cl := HU5.out.1.row.lt))
            clear K6 SX CY HU
            go_upto_region 18 with (fail)
            refine gen_world (fun U => Ly w U q g2 c2 c (stW c (stW c (stW c (stW c (stW c (lyAll c ns j) ((j : Nat) + 1 : Int) 0 1) ((j : Nat) + 1 : Int) 1 x.k) ((j : Nat) + 1 : Int) 2 (lyV x)) ((j : Nat) + 1 : Int) 3 1) ((j : Nat) + 1 : Int) 4 x.t) ∧ RW 82 U nb (nnA x)) ?_ ?_
            · have ks := (Kept.refl [g2] w5).setCell (p := ⟨g2, X, none⟩) (Or.inl (by simp)) (.int .u64 x.t)
              rw [show IntKind.u64.wrap x.t = x.t by rw [IntKind.wrap_u64]; omega]
              exact ⟨HU5.out.1.set HXX.out.1 HXX.out.2 x.t, HU5.out.2.kept ks (by simp; exact HNE.out.2)⟩
            clear HU5 cx cf cl HXX HXn
            rintro U ⟨UL, UB⟩
            have HU := hidOf (And.intro UL UB)
            clear UL UB
            obtain ⟨X, hX, hXl⟩ := cell_at (c := c) (i := ((j : Nat) : Int) + 1) (f := 5) ⟨HR.out.r, by omega, by have := HJ.out; omega, by omega, by have := HH.out; omega⟩
            have CX := hidOf (fun W' => rcell_is hX W')
            have HXX := hidOf (And.intro hX hXl)
            have HXn : (X : Int) < n := by have := HLN.out; omega
            clear hX hXl
            go_wp2_with (first | ((with_reducible change wpList _ _ _ (Oper.mk _ (Op.load 23 (Operand.tmp 2)) _ _ _ _ :: _) _ _); refine wpList_load_rw 23 isT_cf rfl (.tmp 2) rfl q rfl #[.int .i64 c.t, .int .i64 c.s, .int .i64 c.c, .int .i64 c.h, .int .i64 c.k, .int .i64 c.e, .int .i64 c.l] rfl HU.out.1.cb ?_))
            refine (CX.out _).mono ?_
            rintro e w5 ⟨rfl, K5⟩
            have HU5 := hidOf (And.intro (HU.out.1.new K5) (HU.out.2.kept K5 (by simp)))
            clear K5 CX HU
            obtain ⟨v9, cx⟩ := ly_row HU5.out.1 HXX.out.2
            have cf := HU5.out.1.row.free X
            have cl := HU5.out.1.row.lt
            go_upto_region 19 with (fail)
            refine gen_world (fun U => Ly w U q g2 c2 c (stW c (stW c (stW c (stW c (stW c (stW c (lyAll c ns j) ((j : Nat) + 1 : Int) 0 1) ((j : Nat) + 1 : Int) 1 x.k) ((j : Nat) + 1 : Int) 2 (lyV x)) ((j : Nat) + 1 : Int) 3 1) ((j : Nat) + 1 : Int) 4 x.t) ((j : Nat) + 1 : Int) 5 1) ∧ RW 82 U nb (nnA x)) ?_ ?_
            · have ks := (Kept.refl [g2] w5).setCell (p := ⟨g2, X, none⟩) (Or.inl (by simp)) (.int .u64 1)
              exact ⟨HU5.out.1.set HXX.out.1 HXX.out.2 1, HU5.out.2.kept ks (by simp; exact HNE.out.2)⟩
            clear HU5 cx cf cl HXX HXn
            rintro U ⟨UL, UB⟩
            have HU := hidOf (And.intro UL UB)
            clear UL UB
            have LS : Hid ((stW c (stW c (stW c (stW c (stW c (stW c (lyAll c ns j) ((j : Nat) + 1 : Int) 0 1) ((j : Nat) + 1 : Int) 1 x.k) ((j : Nat) + 1 : Int) 2 (lyV x)) ((j : Nat) + 1 : Int) 3 1) ((j : Nat) + 1 : Int) 4 x.t) ((j : Nat) + 1 : Int) 5 1) = lySix c x (j + 1) (lyAll c ns j)) := hidOf (by unfold lySix; rfl)
            have HTL : Hid (((ndOf c ns).tl (j + 1) : Int) = x.t ∧ ((ndOf c ns).um (j + 1) : Int) = x.t - x.m) := hidOf (by
              have e := HXE.out
              have b := HNB.out.1
              unfold nnB at b
              have e1 : (ndOf c ns).tl (j + 1) = x.t.toNat := by rw [e]; rfl
              have e2 : (ndOf c ns).um (j + 1) = (x.t - x.m).toNat := by rw [e]; rfl
              omega)
            generalize (stW c (stW c (stW c (stW c (stW c (stW c (lyAll c ns j) ((j : Nat) + 1 : Int) 0 1) ((j : Nat) + 1 : Int) 1 x.k) ((j : Nat) + 1 : Int) 2 (lyV x)) ((j : Nat) + 1 : Int) 3 1) ((j : Nat) + 1 : Int) 4 x.t) ((j : Nat) + 1 : Int) 5 1) = CS at LS HU
            go_upto_region 20 with (fail)
            go_loopw [10, 11] (fun s10 s11 wr => ∃ M : Nat, M ≤ (ndOf c ns).tl (j + 1) ∧ s10 = .int .i64 M ∧ Ly w wr q g2 c2 c (lyLv c (ndOf c ns) (j + 1) CS M) ∧ RW 82 wr nb (nnA x)) (fun s10 _ _ => (ndOf c ns).tl (j + 1) - (intOf s10).toNat)
            case atStart => exact ⟨0, by omega, by first | rfl | go_num, HU.out.1, HU.out.2⟩
            case round =>
              clear HU
              obtain ⟨M, hM, rfl, UL, UB⟩ := hrel
              have HU := hidOf (And.intro UL UB)
              have z2 := cell_of_blk UB (i := 2) (v := .int .i64 x.t) rfl
              have z3 := cell_of_blk UB (i := 3) (v := .int .i64 x.m) rfl
              clear UL UB
              by_cases hlt3 : M < (ndOf c ns).tl (j + 1)
              · have hz3 : (M : Int) < x.t := by have := HTL.out.1; omega
                have BH : Hid (∀ W' : World, Kept [] w W' → Calls Tryz.prog 51 #[.slice (some ⟨b1, o1, none⟩) k cap, .int .i64 j, .int .i64 M] W' fun e w' => e = .returned (.int .u64 (nw k (N0 (ndOf c ns) M (j + 1)) false)) ∧ Kept [] W' w') := hidOf (fun W' kk => by rw [← e1]; exact behind_any c ns ao k cap j (j + 1) M W' (HS.out.new kk) HK.out (by omega) (by omega) (by omega))
                have kn : k < 4294967296 := by omega
                have HV0 := hidOf (And.intro (nw_word (n := k) (j := N0 (ndOf c ns) M (j + 1)) kn false) (And.intro (mark_nw (n := k) (j := N0 (ndOf c ns) M (j + 1)) kn) (show k = (ndOf c ns).n from HK.out)))
                have HME := hidOf (show (nw (ndOf c ns).n (N0 (ndOf c ns) M (j + 1)) (decide ((ndOf c ns).um (j + 1) ≤ M))) = if (ndOf c ns).um (j + 1) ≤ M then nw k (N0 (ndOf c ns) M (j + 1)) true else nw k (N0 (ndOf c ns) M (j + 1)) false by rw [HV0.out.2.2]; by_cases h : (ndOf c ns).um (j + 1) ≤ M; rw [if_pos h, decide_eq_true h]; rw [if_neg h, decide_eq_false h])
                obtain ⟨VT, hVT⟩ : ∃ VT, VT = nw k (N0 (ndOf c ns) M (j + 1)) true := ⟨_, rfl⟩
                obtain ⟨VF, hVF⟩ : ∃ VF, VF = nw k (N0 (ndOf c ns) M (j + 1)) false := ⟨_, rfl⟩
                obtain ⟨VV, hVV⟩ : ∃ VV, VV = nw (ndOf c ns).n (N0 (ndOf c ns) M (j + 1)) (decide ((ndOf c ns).um (j + 1) ≤ M)) := ⟨_, rfl⟩
                rw [← hVF] at BH HV0
                rw [← hVT] at HV0 HME
                rw [← hVF, ← hVV] at HME
                have HVV := hidOf hVV
                clear hVT hVF hVV kn
                have m0 : 0 ≤ x.m := HNB.out.1.2.2.1
                have m1 : x.m ≤ x.t := HNB.out.1.2.2.2.1
                have hM6 : (M : Int) ≤ 6 := by omega
                go_wp2_with fail
                refine (BH.out wr HU.out.1.kp).mono ?_
                rintro e w5 ⟨rfl, K5⟩
                have HU5 := hidOf (And.intro (HU.out.1.new K5) (HU.out.2.kept K5 (by simp)))
                have y2 := cell_of_blk HU5.out.2 (i := 2) (v := .int .i64 x.t) rfl
                have y3 := cell_of_blk HU5.out.2 (i := 3) (v := .int .i64 x.m) rfl
                clear K5 HU z2 z3 BH
                go_upto_if 117 with (fail)
                go_cut [11] from 101 to 128 (fun s11 U => s11 = .int .u64 VV ∧ Ly w U q g2 c2 c (lyLv c (ndOf c ns) (j + 1) CS M) ∧ RW 82 U nb (nnA x))
                case first =>
                  clear y2 y3
                  by_cases hm : (ndOf c ns).um (j + 1) ≤ M
                  · have hmz : x.t - x.m ≤ (M : Int) := by have := HTL.out.2; omega
                    have HVE := hidOf (show VV = VT by have z := HME.out; rw [if_pos hm] at z; exact z)
                    have MK := hidOf (rmark_any VF w5 HV0.out.1.1 HV0.out.1.2)
                    rw [HV0.out.2.1] at MK
                    clear hm
                    go_wp2_with fail
                    refine MK.out.mono ?_
                    rintro e w6 ⟨rfl, K6⟩
                    have HU6 := hidOf (And.intro (HU5.out.1.new K6) (HU5.out.2.kept K6 (by simp)))
                    clear K6 MK
                    go_wp2
                    go_meet
                    case rel => exact ⟨by rw [HVE.out], HU6.out⟩
                  · have hmz : (M : Int) < x.t - x.m := by have := HTL.out.2; omega
                    have HVE := hidOf (show VV = VF by have z := HME.out; rw [if_neg hm] at z; exact z)
                    clear hm
                    go_wp2
                    go_meet
                    case rel => exact ⟨by rw [HVE.out], HU5.out⟩
                case rest =>
                  obtain ⟨rfl, UL, UB⟩ := hcut
                  clear HU5 y2 y3
                  have HU := hidOf (And.intro UL UB)
                  clear UL UB
                  obtain ⟨X, hX, hXl⟩ := cell_at (c := c) (i := ((j + 1 : Nat) : Int)) (f := ((6 + M : Nat) : Int)) ⟨HR.out.r, by omega, by have := HJ.out; omega, by omega, by have := HH.out; have := HNB.out.1.2.1; omega⟩
                  have hX2 : clV' c ((j : Int) + 1) (6 + (M : Int)) = X := by rw [show 6 + (M : Int) = ((6 + M : Nat) : Int) by omega, show (j : Int) + 1 = ((j + 1 : Nat) : Int) by omega]; exact hX
                  have CX := hidOf (fun W' => rcell_is hX2 W')
                  have HXX := hidOf (And.intro hX hXl)
                  have HXn : (X : Int) < n := by have := HLN.out; omega
                  clear hX hXl hX2
                  go_wp2_with (first | ((with_reducible change wpList _ _ _ (Oper.mk _ (Op.load 23 (Operand.tmp 2)) _ _ _ _ :: _) _ _); refine wpList_load_rw 23 isT_cf rfl (.tmp 2) rfl q rfl #[.int .i64 c.t, .int .i64 c.s, .int .i64 c.c, .int .i64 c.h, .int .i64 c.k, .int .i64 c.e, .int .i64 c.l] rfl HU.out.1.cb ?_))
                  refine (CX.out _).mono ?_
                  rintro e w7 ⟨rfl, K7⟩
                  have HU7 := hidOf (And.intro (HU.out.1.new K7) (HU.out.2.kept K7 (by simp)))
                  obtain ⟨v9, cx⟩ := ly_row HU7.out.1 HXX.out.2
                  have cf := HU7.out.1.row.free X
                  have cl := HU7.out.1.row.lt
                  clear K7 CX HU
                  go_wp2
                  go_roundw
                  case rel =>
                    have z := HU7.out.1.set HXX.out.1 HXX.out.2 VV
                    rw [HVV.out] at z ⊢
                    have ks := (Kept.refl [g2] w7).setCell (p := ⟨g2, X, none⟩) (Or.inl (by simp)) (.int .u64 (nw (ndOf c ns).n (N0 (ndOf c ns) M (j + 1)) (decide ((ndOf c ns).um (j + 1) ≤ M))))
                    exact ⟨M + 1, by omega, by go_num, z, HU7.out.2.kept ks (by simp; exact HNE.out.2)⟩
                  case measure => simp [intOf]; omega
              · have hME : M = (ndOf c ns).tl (j + 1) := by omega
                have hz3 : ¬ (M : Int) < x.t := by have := HTL.out.1; omega
                have HY : Hid (Ly w wr q g2 c2 c (lyAll c ns (j + 1))) := hidOf (by
                  have z := HU.out.1
                  rw [LS.out, hME, HXE.out] at z
                  exact z)
                clear HU hME LS
                go_wp2
                go_roundw
                case rel => exact ⟨j + 1, by omega, by go_num, HY.out⟩
                case measure => simp [intOf]; omega
        · have hje : j = k := by omega
          have hjz : ¬ (j : Int) < (k : Int) := by omega
          have HY : Hid (RowR wr g2 (layV c ns) c2 ∧ Kept [] w wr ∧ w.heap.size ≤ g2) := hidOf (by
            have z := HL.out
            rw [hje, HK.out] at z
            exact ⟨z.row, z.kp, z.g0⟩)
          clear HL hje
          go_wp2
          go_ret
          have e := HLN.out
          subst e
          exact ⟨g2, c2, rfl, HY.out.2.2, HY.out.1, HY.out.2.1⟩
end K
end Go.Proofs.YtgafmklfpiipcaaGreatDoor
namespace Go.Proofs.YtgafmklfpiipcaaGreatDoor
open Go.RowKit (Grown Hid Below intOf)
open Go.Deep
namespace K
set_option maxRecDepth 100000
/-- The answer: just if they may. -/
def RgP (c : Cfg) (ns : List Nn) (e : Ending) (K : Prop) : Prop := ∃ B : Bool, e = .returned (.bool B) ∧ (B = true ↔ RightN c ns) ∧ K
theorem RgP.yes {c : Cfg} {ns : List Nn} {e : Ending} {K : Prop} (he : e = .returned (.bool true)) (h : RightN c ns) (k : K) : RgP c ns e K := ⟨true, he, ⟨fun _ => h, fun _ => rfl⟩, k⟩
theorem RgP.no {c : Cfg} {ns : List Nn} {e : Ending} {K : Prop} (he : e = .returned (.bool false)) (h : ¬ RightN c ns) (k : K) : RgP c ns e K := ⟨false, he, ⟨fun z => (by cases z), fun z => absurd z h⟩, k⟩
theorem rt_no {c : Cfg} {ns : List Nn} {j : Nat} (hj : j < ns.length) (h : ¬ nnB c (ns.getD j nn0)) : ¬ RightN c ns := fun r => h (r.b j hj)
end K
end Go.Proofs.YtgafmklfpiipcaaGreatDoor
