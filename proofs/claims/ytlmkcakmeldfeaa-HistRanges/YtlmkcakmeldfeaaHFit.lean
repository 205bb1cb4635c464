/-
  Events: do a Range's keys fit; does it leave out one? The library's search in a row of words.
-/
import Derived.Test.YtlmkcakmeldfeaaHMeth
namespace Go.Proofs.Ytlmkcakmeldfeaa.Q
set_option maxRecDepth 100000
open Go.RowKit
open Go.Deep
theorem less_any (x y : Int) (w : World) : Calls Try.prog 63 #[.int .u64 x, .int .u64 y] w fun o w' => o = .returned (.bool (decide (x < y))) ∧ w' = w := by
  go_enter Try.func63, Try.ntmps63
  go_wp2_with (go_at_call 69; refine (nan_any _ _).mono ?_; rintro o w1 ⟨rfl, rfl⟩)
  go_ret
  exact ⟨rfl, rfl⟩
theorem snan_any (x : Int) (w : World) : Calls Try.prog 64 #[.int .u64 x] w fun o w' => o = .returned (.bool false) ∧ w' = w := by
  go_enter Try.func64, Try.ntmps64
  go_wp2
  go_ret
  exact ⟨by simp, rfl⟩
/-- Is that place's word the one that is asked for? -/
def hwB (ks : List Int) (n : Nat) (k : Int) (i : Nat) : Bool := decide (i < n) && (ks.getD i 0 == k)
def BinW (ks : List Int) (n : Nat) (k : Int) (i : Nat) : Prop := i ≤ n ∧ (i = 0 ∨ ks.getD (i - 1) 0 < k) ∧ (i = n ∨ k ≤ ks.getD i 0)
set_option maxHeartbeats 2000000 in
theorem binw_any (ao : Option Addr) (ks : List Int) (n cap : Nat) (k : Int) (w : World) (hn : n = ks.length) (hs : Sl w ao ks) (hl : n ≤ 1000) :
    Calls Try.prog 54 #[.slice ao n cap, .int .u64 k] w fun o w' => ∃ i : Nat, o = .returned (.tuple #[.int .i64 i, .bool (hwB ks n k i)]) ∧ BinW ks n k i ∧ Kept [] w w' := by
  have HN : Hid _ := hn
  clear hn
  go_enter Try.func54, Try.ntmps54
  go_wp2
  go_loopw [7, 8, 9] (fun vi vj _ wr => ∃ i j : Nat, i ≤ j ∧ j ≤ n ∧ vi = .int .i64 i ∧ vj = .int .i64 j ∧ Hid ((i = 0 ∨ ks.getD (i - 1) 0 < k) ∧ (j = n ∨ k ≤ ks.getD j 0)) ∧ Kept [] w wr) (fun vi vj _ _ => (intOf vj).toNat - (intOf vi).toNat)
  case atStart => exact ⟨0, n, Nat.zero_le _, Nat.le_refl _, rfl, rfl, ⟨Or.inl rfl, Or.inl rfl⟩, Kept.refl _ _⟩
  case round =>
    obtain ⟨i, j, hij, hjn, rfl, rfl, E, K⟩ := hrel
    by_cases hlt : i < j
    · have hltz : (i : Int) < (j : Int) := by omega
      obtain ⟨c, hc⟩ : ∃ c, c = (i + j) / 2 := ⟨_, rfl⟩
      have ec : ((i : Int) + (j : Int)) / 2 = (c : Int) := by omega
      have hci : i ≤ c := by omega
      have hcj : c < j := by omega
      clear hc
      obtain ⟨b1, o1, rfl, _, c0⟩ := (hs.new K).cell (i := c) (by have := HN.out; omega)
      obtain ⟨x, hx⟩ : ∃ x, ks.getD c 0 = x := ⟨_, rfl⟩
      rw [hx] at c0
      have HX : Hid _ := hx
      clear hx
      have z1 : (c : Int) < (n : Int) := by omega
      by_cases hlv : x < k
      · go_wp2_with (go_at_call 63; refine (less_any _ _ _).mono ?_; rintro o w1 ⟨rfl, rfl⟩)
        go_roundw
        case rel => exact ⟨c + 1, j, by omega, hjn, by go_num, rfl, ⟨Or.inr (by rw [Nat.add_sub_cancel, HX.out]; exact hlv), E.out.2⟩, K⟩
        case measure => simp [intOf]; omega
      · go_wp2_with (go_at_call 63; refine (less_any _ _ _).mono ?_; rintro o w1 ⟨rfl, rfl⟩)
        go_roundw
        case rel => exact ⟨i, c, by omega, by omega, rfl, by first | rfl | go_num, ⟨E.out.1, Or.inr (by rw [HX.out]; omega)⟩, K⟩
        case measure => simp [intOf]; omega
    · obtain rfl : i = j := by omega
      have hltz : ¬ (i : Int) < (i : Int) := by omega
      by_cases hin : i < n
      · have hinz : (i : Int) < (n : Int) := by omega
        obtain ⟨b1, o1, rfl, _, c0⟩ := (hs.new K).cell (i := i) (by have := HN.out; omega)
        obtain ⟨x, hx⟩ : ∃ x, ks.getD i 0 = x := ⟨_, rfl⟩
        rw [hx] at c0
        have HX : Hid _ := hx
        clear hx
        by_cases q : x = k
        · have q1 : (x == k) = true := by simpa using q
          have HQ : Hid _ := q1
          subst q
          clear q1
          go_wp2_with (go_at_call 64; refine (snan_any _ _).mono ?_; rintro o w1 ⟨rfl, rfl⟩)
          go_ret2
          exact ⟨i, by rw [show hwB ks n x i = true by unfold hwB; rw [decide_eq_true hin, HX.out, Bool.true_and]; exact HQ.out]; rfl, ⟨hjn, E.out⟩, K⟩
        · have q1 : (x == k) = false := by simpa using q
          go_wp2_with (go_at_call 64; refine (snan_any _ _).mono ?_; rintro o w1 ⟨rfl, rfl⟩)
          go_ret2
          exact ⟨i, by rw [show hwB ks n k i = false by unfold hwB; rw [decide_eq_true hin, HX.out, Bool.true_and]; exact q1]; rfl, ⟨hjn, E.out⟩, K⟩
      · have hinz : ¬ (i : Int) < (n : Int) := by omega
        go_wp2
        go_ret2
        exact ⟨i, by rw [show hwB ks n k i = false by unfold hwB; rw [decide_eq_false hin, Bool.false_and]]; rfl, ⟨hjn, E.out⟩, K⟩
end Go.Proofs.Ytlmkcakmeldfeaa.Q
