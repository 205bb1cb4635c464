/-
  The contracts of finding a key's place, and of parting a map there.
-/
import Derived.Test.YtapbkonfjieadaaQOf2
namespace Go.Proofs.Ytapbkonfjieadaa.Q
set_option maxRecDepth 100000
open Go.RowKit
open Go.Deep
theorem against_at (p : Pr) (k c : Int) (hc : c = cpI p.k k) (w : World) : Calls Try.prog 38 #[.agg #[.int .u64 p.k, .int .u64 p.v], .int .u64 k] w fun o w' => o = .returned (.int .i64 c) ∧ Kept [] w w' := by
  subst hc; exact against_any p k w
/-- Is that place's key the one that is asked for? -/
def hsB (ps : List Pr) (n : Nat) (k : Int) (i : Nat) : Bool := decide (i < n) && decide ((ps.getD i default).k = k)
/-- A place that parts a map by a key. -/
def BinP (ps : List Pr) (n : Nat) (k : Int) (i : Nat) : Prop := i ≤ n ∧ (i = 0 ∨ (ps.getD (i - 1) default).k < k) ∧ (i = n ∨ k ≤ (ps.getD i default).k)
set_option maxHeartbeats 2000000 in
theorem bin_any (ao : Option Addr) (ps : List Pr) (n cap : Nat) (k : Int) (w : World) (hn : n = ps.length) (hs : SlP w ao ps) (hl : n ≤ 1000) :
    Calls Try.prog 44 #[.slice ao n cap, .int .u64 k, .func (.func 38) #[] #[]] w fun o w' => ∃ i : Nat, o = .returned (.tuple #[.int .i64 i, .bool (hsB ps n k i)]) ∧ BinP ps n k i ∧ Kept [] w w' := by
  have HN : Hid _ := hn
  clear hn
  go_enter Try.func44, Try.ntmps44
  go_wp2
  go_loopw [9, 10, 11] (fun vi vj _ wr => ∃ i j : Nat, i ≤ j ∧ j ≤ n ∧ vi = .int .i64 i ∧ vj = .int .i64 j ∧ Hid ((i = 0 ∨ (ps.getD (i - 1) default).k < k) ∧ (j = n ∨ k ≤ (ps.getD j default).k)) ∧ Kept [] w wr) (fun vi vj _ _ => (intOf vj).toNat - (intOf vi).toNat)
  case atStart => exact ⟨0, n, Nat.zero_le _, Nat.le_refl _, rfl, rfl, ⟨Or.inl rfl, Or.inl rfl⟩, Kept.refl _ _⟩
  case round =>
    obtain ⟨i, j, hij, hjn, rfl, rfl, E, K⟩ := hrel
    by_cases hlt : i < j
    · have hltz : (i : Int) < (j : Int) := by omega
      obtain ⟨c, hc⟩ : ∃ c, c = (i + j) / 2 := ⟨_, rfl⟩
      have ec : ((i : Int) + (j : Int)) / 2 = (c : Int) := by omega
      have hci : i ≤ c := by omega
      have hcj : c < j := by omega
      clear hc
      obtain ⟨b1, o1, rfl, _, c0, c1⟩ := SlP.row (hs.new K) (k := c) (by have := HN.out; omega)
      obtain ⟨x, hx⟩ : ∃ x, ps.getD c default = x := ⟨_, rfl⟩
      rw [hx] at c0 c1
      have HX : Hid _ := hx
      clear hx
      obtain ⟨r, hr⟩ : ∃ r, r = cpI x.k k := ⟨_, rfl⟩
      have hca := against_at x k r hr wr
      have z1 : (c : Int) < (n : Int) := by omega
      by_cases hlv : x.k < k
      · have hcd : r < 0 := by rw [hr]; exact cpI_lt.2 hlv
        clear hr
        go_wp2_with (go_at_call 38; refine hca.mono ?_; rintro o w1 ⟨rfl, K1⟩)
        go_roundw
        case rel => exact ⟨c + 1, j, by omega, hjn, by go_num, rfl, ⟨Or.inr (by rw [Nat.add_sub_cancel, HX.out]; exact hlv), E.out.2⟩, K.trans K1⟩
        case measure => simp [intOf]; omega
      · have hcd : ¬ r < 0 := by rw [hr]; exact fun q => hlv (cpI_lt.1 q)
        clear hr
        go_wp2_with (go_at_call 38; refine hca.mono ?_; rintro o w1 ⟨rfl, K1⟩)
        go_roundw
        case rel => exact ⟨i, c, by omega, by omega, rfl, by first | rfl | go_num, ⟨E.out.1, Or.inr (by rw [HX.out]; omega)⟩, K.trans K1⟩
        case measure => simp [intOf]; omega
    · obtain rfl : i = j := by omega
      have hltz : ¬ (i : Int) < (i : Int) := by omega
      by_cases hin : i < n
      · have hinz : (i : Int) < (n : Int) := by omega
        obtain ⟨b1, o1, rfl, _, c0, c1⟩ := SlP.row (hs.new K) (k := i) (by have := HN.out; omega)
        obtain ⟨x, hx⟩ : ∃ x, ps.getD i default = x := ⟨_, rfl⟩
        rw [hx] at c0 c1
        have HX : Hid _ := hx
        clear hx
        obtain ⟨r, hr⟩ : ∃ r, r = cpI x.k k := ⟨_, rfl⟩
        have hca := against_at x k r hr wr
        have hb : (r == 0) = decide (x.k = k) := by
          rw [hr]
          by_cases q : x.k = k
          · rw [decide_eq_true q]; simpa using cpI_eq.2 q
          · rw [decide_eq_false q]; simpa using fun h => q (cpI_eq.1 h)
        have HB : Hid _ := hb
        clear hr hb
        go_wp2_with (go_at_call 38; refine hca.mono ?_; rintro o w1 ⟨rfl, K1⟩)
        go_ret2
        exact ⟨i, by rw [show hsB ps n k i = (r == 0) by unfold hsB; rw [decide_eq_true hin, HX.out, Bool.true_and]; exact HB.out.symm]; rfl, ⟨hjn, E.out⟩, K.trans K1⟩
      · have hinz : ¬ (i : Int) < (n : Int) := by omega
        go_wp2
        go_ret2
        exact ⟨i, by rw [show hsB ps n k i = false by unfold hsB; rw [decide_eq_false hin, Bool.false_and]]; rfl, ⟨hjn, E.out⟩, K⟩
end Go.Proofs.Ytapbkonfjieadaa.Q
