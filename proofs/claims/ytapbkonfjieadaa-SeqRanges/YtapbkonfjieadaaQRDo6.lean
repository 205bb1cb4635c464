/-
  The document's own op of a map: of another kind.
-/
import Derived.Test.YtapbkonfjieadaaQRDo
import Derived.BigRegion
import Derived.Deep.RegionLaw
namespace Go.Proofs.Ytapbkonfjieadaa.Q
set_option maxRecDepth 100000
open Go.RowKit
open Go.Deep
set_option maxHeartbeats 4000000 in
theorem rdo_none (ao : Option Addr) (ps : List Pr) (n cap : Nat) (op : OpQ) (w : World) (h : MpV w ao n cap ps) (_hst : Str ps) (_hl : n ≤ 1000) (hd : ¬ (op.d = 1 ∨ op.d = 2 ∨ op.d = 3 ∨ op.d = 4 ∨ op.d = 5)) :
    Calls Try.prog 18 #[.slice ao n cap, .agg #[.int .i64 op.d, .int .u64 op.k, .int .u64 op.v, .int .i64 op.n, .int .i64 op.t]] w fun o w' => RDoP w ps op o w' := by
  have e1 : doM ps op = ps := by unfold doM; rw [if_neg (by omega), if_neg (by omega)]
  have e2 : doH ps op = false := by unfold doH; rw [if_neg (by omega), if_neg (by omega)]
  have e3 : doG ps op = 0 := by unfold doG; rw [if_neg (by omega), if_neg (by omega)]
  have e4 : doK ps op = [] := by unfold doK; rw [if_neg (by omega)]
  have EE : Hid _ := And.intro e1 (And.intro e2 (And.intro e3 e4))
  clear e1 e2 e3 e4
  obtain ⟨d, k, v, nn, t⟩ := op
  simp only at hd
  have n1 : ¬ d = 1 := by omega
  have n2 : ¬ d = 2 := by omega
  have n3 : ¬ d = 3 := by omega
  have n4 : ¬ d = 4 := by omega
  have n5 : ¬ d = 5 := by omega
  have HM : Hid (MpV w ao n cap ps) := h
  clear h hd
  go_enter Try.func18, Try.ntmps18
  go_wp2
  have KF : Kept [] w ((w.alloc (.cells #[.int .i64 d, .int .u64 k, .int .u64 v, .int .i64 nn, .int .i64 t] 38)).alloc (.cells #[.bool false, .bool false, .int .u64 0, .slice none 0 0] 41)) := ((Kept.refl _ _).alloc _).alloc _
  refine bodyPost_ret (v := .tuple #[.slice ao n cap, .agg #[.bool false, .bool false, .int .u64 0, .slice none 0 0]]) (by simp [results, Try.results18, go_sem]) rfl ?_
  exact ⟨ao, n, cap, none, 0, 0, by rw [EE.out.2.1, EE.out.2.2.1], by rw [EE.out.1]; exact MpV.new HM.out KF, by rw [EE.out.2.2.2]; rfl, by rw [EE.out.2.2.2]; exact fun h => absurd h (by simp), KF⟩
end Go.Proofs.Ytapbkonfjieadaa.Q
