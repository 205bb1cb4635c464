/-
  The contracts of comparing: keys, pairs by their keys.
-/
import Derived.Test.YtapbkonfjieadaaQPair
namespace Go.Proofs.Ytapbkonfjieadaa.Q
set_option maxRecDepth 100000
open Go.RowKit
open Go.Deep
/-- Which of two is the lesser one. -/
def cpI (x y : Int) : Int := if x < y then -1 else if y < x then 1 else 0
theorem cpI_lt {x y : Int} : cpI x y < 0 ↔ x < y := by unfold cpI; split <;> (try split) <;> omega
theorem cpI_eq {x y : Int} : cpI x y = 0 ↔ x = y := by unfold cpI; split <;> (try split) <;> omega
theorem nan_any (x : Int) (w : World) : Calls Try.prog 47 #[.int .u64 x] w fun o w' => o = .returned (.bool false) ∧ w' = w := by
  go_enter Try.func47, Try.ntmps47
  go_wp2
  go_ret
  exact ⟨by simp, rfl⟩
theorem cmp_any (x y : Int) (w : World) : Calls Try.prog 43 #[.int .u64 x, .int .u64 y] w fun o w' => o = .returned (.int .i64 (cpI x y)) ∧ Kept [] w w' := by
  unfold cpI
  by_cases h1 : x < y
  · rw [if_pos h1]
    go_enter Try.func43, Try.ntmps43
    go_wp2_with (go_at_call 47; refine (nan_any _ _).mono ?_; rintro o w1 ⟨rfl, rfl⟩)
    go_ret
    exact ⟨rfl, Kept.refl _ _⟩
  · rw [if_neg h1]
    by_cases h2 : y < x
    · rw [if_pos h2]
      go_enter Try.func43, Try.ntmps43
      go_wp2_with (go_at_call 47; refine (nan_any _ _).mono ?_; rintro o w1 ⟨rfl, rfl⟩)
      go_ret
      exact ⟨rfl, Kept.refl _ _⟩
    · rw [if_neg h2]
      go_enter Try.func43, Try.ntmps43
      go_wp2_with (go_at_call 47; refine (nan_any _ _).mono ?_; rintro o w1 ⟨rfl, rfl⟩)
      go_ret
      exact ⟨rfl, Kept.refl _ _⟩
theorem against_any (p : Pr) (k : Int) (w : World) : Calls Try.prog 38 #[.agg #[.int .u64 p.k, .int .u64 p.v], .int .u64 k] w fun o w' => o = .returned (.int .i64 (cpI p.k k)) ∧ Kept [] w w' := by
  have K : Kept [] w (w.alloc (.cells #[.int .u64 p.k, .int .u64 p.v] 52)) := (Kept.refl _ _).alloc _
  have hc := cmp_any p.k k (w.alloc (.cells #[.int .u64 p.k, .int .u64 p.v] 52))
  generalize cpI p.k k = c at hc ⊢
  go_enter Try.func38, Try.ntmps38
  go_wp2_with fail
  refine hc.mono ?_
  rintro o w1 ⟨rfl, K1⟩
  go_wp2
  go_ret
  exact ⟨rfl, K.trans K1⟩
theorem compare_any (p q : Pr) (w : World) : Calls Try.prog 25 #[.agg #[.int .u64 p.k, .int .u64 p.v], .agg #[.int .u64 q.k, .int .u64 q.v]] w fun o w' => o = .returned (.int .i64 (cpI p.k q.k)) ∧ Kept [] w w' := by
  have K : Kept [] w ((w.alloc (.cells #[.int .u64 p.k, .int .u64 p.v] 52)).alloc (.cells #[.int .u64 q.k, .int .u64 q.v] 52)) := ((Kept.refl _ _).alloc _).alloc _
  have hc := against_any p q.k ((w.alloc (.cells #[.int .u64 p.k, .int .u64 p.v] 52)).alloc (.cells #[.int .u64 q.k, .int .u64 q.v] 52))
  generalize cpI p.k q.k = c at hc ⊢
  go_enter Try.func25, Try.ntmps25
  go_wp2_with fail
  refine hc.mono ?_
  rintro o w1 ⟨rfl, K1⟩
  go_wp2
  go_ret
  exact ⟨rfl, K.trans K1⟩
theorem sameKey_any (p q : Pr) (w : World) : Calls Try.prog 27 #[.agg #[.int .u64 p.k, .int .u64 p.v], .agg #[.int .u64 q.k, .int .u64 q.v]] w fun o w' => o = .returned (.bool (p.k == q.k)) ∧ Kept [] w w' := by
  have K : Kept [] w ((w.alloc (.cells #[.int .u64 p.k, .int .u64 p.v] 52)).alloc (.cells #[.int .u64 q.k, .int .u64 q.v] 52)) := ((Kept.refl _ _).alloc _).alloc _
  go_enter Try.func27, Try.ntmps27
  go_wp2
  go_ret
  exact ⟨rfl, K⟩
end Go.Proofs.Ytapbkonfjieadaa.Q
