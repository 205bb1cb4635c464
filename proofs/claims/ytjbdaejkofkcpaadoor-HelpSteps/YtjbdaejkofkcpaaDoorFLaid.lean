/-
  Nodes that are laid by hand, as they are handed in; words that are written one behind the other.
-/
import Derived.Test.YtjbdaejkofkcpaaDoorFMath
namespace Go.Proofs.YtjbdaejkofkcpaaDoor
open Go.RowKit (Grown Hid Below)
open Go.Deep
namespace K
set_option maxRecDepth 100000
/-- A node, as it is handed in: its key, its value, on how many levels it is, on how many of them it is deleted, whether its value is dead. -/
structure Nn where
  k : Int
  v : Int
  t : Int
  m : Int
  d : Bool
def nnL (x : Nn) : List Value := [.int .u64 x.k, .int .u64 x.v, .int .i64 x.t, .int .i64 x.m, .bool x.d]
def nnA (x : Nn) : Array Value := #[.int .u64 x.k, .int .u64 x.v, .int .i64 x.t, .int .i64 x.m, .bool x.d]
def nn0 : Nn := ⟨0, 0, 0, 0, false⟩
def Nn.wf (x : Nn) : Prop := (0 ≤ x.k ∧ x.k < 18446744073709551616) ∧ 0 ≤ x.v ∧ x.v < 18446744073709551616
def ndOf (c : Cfg) (ns : List Nn) : Nd := ⟨ns.length, fun i => (ns.getD (i - 1) nn0).k, fun i => if i = 0 then HN c else (ns.getD (i - 1) nn0).t.toNat, fun i => if i = 0 then HN c else ((ns.getD (i - 1) nn0).t - (ns.getD (i - 1) nn0).m).toNat⟩
/-- One node may be laid. -/
def nnB (c : Cfg) (x : Nn) : Prop := 1 ≤ x.t ∧ x.t ≤ c.h ∧ 0 ≤ x.m ∧ x.m ≤ x.t ∧ (0 < x.m → x.d = true) ∧ x.v < 9223372036854775808
structure RightN (c : Cfg) (ns : List Nn) : Prop where
  r : riB c = true
  n : (ns.length : Int) ≤ c.c
  b : ∀ i, i < ns.length → nnB c (ns.getD i nn0)
  up : ∀ i, i + 1 < ns.length → (ns.getD i nn0).k < (ns.getD (i + 1) nn0).k
theorem RightN.lt {c : Cfg} {ns : List Nn} (h : RightN c ns) : ∀ d i, i + d + 1 < ns.length → (ns.getD i nn0).k < (ns.getD (i + d + 1) nn0).k
  | 0, i, hi => h.up i hi
  | d + 1, i, hi => by
    have a := h.lt d i (by omega)
    have b := h.up (i + d + 1) (by omega)
    rw [show i + (d + 1) + 1 = i + d + 1 + 1 by omega]; omega
theorem RightN.ok {c : Cfg} {ns : List Nn} (h : RightN c ns) : (ndOf c ns).ok c := by
  have R := riB_true.1 h.r
  have hh := HN_eq R
  refine ⟨h.n, ⟨rfl, rfl⟩, fun i hi => ?_, fun i hi => ?_, fun i j i1 hij hj => ?_⟩
  · show (if i = 0 then HN c else (ns.getD (i - 1) nn0).t.toNat) ≤ HN c
    split
    · exact Nat.le_refl _
    · have hi' : i ≤ ns.length := hi
      have := h.b (i - 1) (by omega)
      unfold nnB at this; omega
  · show (if i = 0 then HN c else ((ns.getD (i - 1) nn0).t - (ns.getD (i - 1) nn0).m).toNat) ≤ (if i = 0 then HN c else (ns.getD (i - 1) nn0).t.toNat)
    split
    · exact Nat.le_refl _
    · have hi' : i ≤ ns.length := hi
      have := h.b (i - 1) (by omega)
      unfold nnB at this; omega
  · have hj' : j ≤ ns.length := hj
    have z := h.lt (j - i - 1) (i - 1) (by omega)
    rw [show i - 1 + (j - i - 1) + 1 = j - 1 by omega] at z
    exact z
/-- A word is written. -/
def stW (c : Cfg) (cs : List Int) (i f v : Int) : List Int := cs.set (clV' c i f).toNat v
theorem stW_len (c : Cfg) (cs : List Int) (i f v : Int) : (stW c cs i f v).length = cs.length := by unfold stW; simp
theorem fd_stW {c : Cfg} {cs : List Int} (hl : (cs.length : Int) = lnV c) {i f : Int} (h : inF c i f) (v i' f' : Int) : fd c (stW c cs i f v) i' f' = if i' = i ∧ f' = f then v else fd c cs i' f' := by
  have hx := cl_has hl h
  have e : hasC (stW c cs i f v) (clV' c i' f') ↔ hasC cs (clV' c i' f') := hasC_len (stW_len _ _ _ _ _) _
  unfold fd
  rw [rdG_eq, rdG_eq]
  by_cases he : i' = i ∧ f' = f
  · obtain ⟨rfl, rfl⟩ := he
    rw [if_pos (e.2 hx), if_pos ⟨rfl, rfl⟩]
    unfold stW
    rw [getD_set _ _ _ _ (by unfold hasC at hx; omega), if_pos rfl]
  · rw [if_neg he]
    by_cases hc : hasC cs (clV' c i' f')
    · rw [if_pos (e.2 hc), if_pos hc]
      unfold stW
      rw [getD_set _ _ _ _ (by unfold hasC at hc; omega), if_neg]
      intro z
      have h' : inF c i' f' := by
        by_cases h' : inF c i' f'
        · exact h'
        · have e2 : clV' c i' f' = -1 := if_neg h'
          have := hc.1; omega
      exact he (cl_inj h' h (by have := hc.1; have := hx.1; omega))
    · rw [if_neg (fun z => hc (e.1 z)), if_neg hc]
theorem clk_stW {c : Cfg} {cs : List Int} {i f : Int} (h : inF c i f) (v : Int) : rdG (stW c cs i f v) 0 = rdG cs 0 := by
  have e2 : clV' c i f = 1 + c.t * c.s + i * (6 + c.h) + f := if_pos h
  have z := (fld_wh h).2.1
  have := ts_bd (riB_true.1 h.1)
  have e : hasC (stW c cs i f v) 0 ↔ hasC cs 0 := hasC_len (stW_len _ _ _ _ _) _
  rw [rdG_eq, rdG_eq]
  by_cases hc : hasC cs 0
  · rw [if_pos (e.2 hc), if_pos hc]
    unfold stW
    rw [getD_set _ _ _ _ (by unfold hasC at hc; omega), if_neg (by show ¬ (clV' c i f).toNat = (0 : Int).toNat; omega)]
  · rw [if_neg (fun z => hc (e.1 z)), if_neg hc]
/-- Words in which the head's levels below H, and the first j nodes, are laid. -/
structure Ld (c : Cfg) (l : Nd) (cs : List Int) (H j : Nat) : Prop where
  len : (cs.length : Int) = lnV c
  clk : rdG cs 0 = 1
  hd : ∀ M, M < H → fd c cs 0 (6 + M : Nat) = nw l.n (N0 l M 0) false
  nx : ∀ i M, 1 ≤ i → i ≤ j → M < l.tl i → fd c cs i (6 + M : Nat) = nw l.n (N0 l M i) (decide (l.um i ≤ M))
  ky : ∀ i, 1 ≤ i → i ≤ j → fd c cs i 1 = l.K i
theorem Ld.rep {c : Cfg} {l : Nd} {cs : List Int} (ok : l.ok c) (h : Ld c l cs (HN c) l.n) : Rep c l cs (N0 l) := by
  refine ⟨fun L i hi => ?_, fun i a b => h.ky i a b⟩
  by_cases h0 : i = 0
  · subst h0
    have z := hi.2
    rw [ok.h0.1] at z
    show fd c cs 0 (6 + L : Nat) = _
    have z1 := ok.h0.1
    have z2 := ok.h0.2
    rw [h.hd L z, decide_eq_false (by omega)]
  · exact h.nx i L (by omega) hi.1 hi.2
/-- How many steps there are, at most, from the beginning. -/
theorem mu_start {c : Cfg} {l : Nd} {cs : List Int} {N : Nat → Nat → Nat} (R : Rt c) (ok : l.ok c) (sk : Sk l N) (f : Fm) (a t : Int) {T : Int} (hT : 0 ≤ T) : mu c l cs ⟨0, 0, t⟩ (f.anew a) N 0 T ≤ (T + 1) * (full c l + 3) := by
  have hh := HN_eq R
  have h0 := R.h0
  have s0 := R.s0
  have hb : bs c l (f.anew a) N 0 ≤ full c l := by
    unfold bs full
    show ((HN c - 1 - 0 : Nat) : Int) * (4 * l.n + 1) + bsL l 0 (N (HN c - 1 - 0) 0) ≤ _
    have lt := sk.lt (HN c - 1 - 0) 0 ⟨Nat.zero_le _, by have := ok.h0.1; omega⟩
    obtain ⟨M, hM⟩ : ∃ M, HN c = M + 1 := ⟨HN c - 1, by omega⟩
    rw [hM] at lt ⊢
    rw [show M + 1 - 1 - 0 = M by omega] at lt ⊢
    have z := Int.add_mul (M : Int) 1 (4 * l.n + 1)
    rw [(bsL_nx l _).1, Int.natCast_add, Int.natCast_one, z]
    omega
  have hp : pend cs ⟨0, 0, t⟩ (f.anew a) ≤ 1 := by
    unfold pend
    rw [if_neg (by show ¬ 0 = 2; omega)]
    split <;> omega
  have hp0 := (pend_bd cs ⟨0, 0, t⟩ (f.anew a)).1
  have hr : rst c ⟨0, 0, t⟩ (pend cs ⟨0, 0, t⟩ (f.anew a) + T) ≤ T := by
    unfold rst
    show (if _ ≤ c.s - 0 then 0 else _ - (c.s - 0)) ≤ T
    split <;> omega
  have z := Int.mul_le_mul_of_nonneg_left hr (full_nn c l)
  have e := Int.add_mul T 1 (full c l + 3)
  have e2 := Int.mul_add T (full c l) 3
  have e3 := Int.mul_comm T (full c l)
  unfold mu
  omega
/-- The law's own bound. -/
def bnd (c : Cfg) : Int := 6 * (c.h + 1) * (c.c + 4)
theorem full_bnd {c : Cfg} {l : Nd} (R : Rt c) (ok : l.ok c) : full c l + 3 ≤ bnd c := by
  have hh := HN_eq R
  have h0 := R.h0
  have c0 := R.c0
  have hn := ok.n
  unfold full bnd
  rw [hh]
  have a1 := Int.mul_add c.h (4 * (l.n : Int)) 1
  have a2 : c.h * (4 * (l.n : Int)) ≤ c.h * (4 * c.c) := Int.mul_le_mul_of_nonneg_left (by omega) (by omega)
  have a3 : c.h * (4 * c.c) = 4 * (c.h * c.c) := by rw [Int.mul_left_comm]
  have b1 : 6 * (c.h + 1) * (c.c + 4) = 6 * ((c.h + 1) * (c.c + 4)) := Int.mul_assoc _ _ _
  have b2 : (c.h + 1) * (c.c + 4) = c.h * (c.c + 4) + 1 * (c.c + 4) := Int.add_mul _ _ _
  have b3 : c.h * (c.c + 4) = c.h * c.c + c.h * 4 := Int.mul_add _ _ _
  have b4 : 0 ≤ c.h * c.c := Int.mul_nonneg (by omega) (by omega)
  omega
end K
end Go.Proofs.YtjbdaejkofkcpaaDoor
