/-
  The contract of any op of a map.
-/
import Derived.Test.YtapbkonfjieadaaQDo1
import Derived.Test.YtapbkonfjieadaaQDo2
import Derived.Test.YtapbkonfjieadaaQDo3
import Derived.Test.YtapbkonfjieadaaQDo4
import Derived.Test.YtapbkonfjieadaaQDo5
import Derived.Test.YtapbkonfjieadaaQDo6
namespace Go.Proofs.Ytapbkonfjieadaa.Q
open Go.RowKit
open Go.Deep
theorem do_any (ao : Option Addr) (ps : List Pr) (n cap : Nat) (op : OpQ) (w : World) (h : MpV w ao n cap ps) (hst : Str ps) (hw : Wd ps) (hl : n ≤ 1000) :
    Calls Try.prog 17 #[.agg #[.slice ao n cap], .agg #[.int .i64 op.d, .int .u64 op.k, .int .u64 op.v, .int .i64 op.n, .int .i64 op.t]] w fun o w' => DoP w ps op o w' := by
  by_cases h1 : op.d = 1
  · exact do_get ao ps n cap op w h hst hw hl h1
  · by_cases h2 : op.d = 2
    · exact do_put ao ps n cap op w h hst hw hl h2
    · by_cases h3 : op.d = 3
      · exact do_del ao ps n cap op w h hst hw hl h3
      · by_cases h4 : op.d = 4
        · exact do_ceil ao ps n cap op w h hst hw hl h4
        · by_cases h5 : op.d = 5
          · exact do_range ao ps n cap op w h hst hw hl h5
          · exact do_none ao ps n cap op w h hst hw hl (by omega)
/-- The same, its answer under names. -/
theorem do_at (ao : Option Addr) (ps : List Pr) (n cap : Nat) (d k v nn t : Int) (w : World) (h : MpV w ao n cap ps) (hst : Str ps) (hw : Wd ps) (hl : n ≤ 1000) (ps' : List Pr) (hh : Bool) (g : Int) (ks : List Int)
    (e1 : doM ps ⟨d, k, v, nn, t⟩ = ps') (e2 : doH ps ⟨d, k, v, nn, t⟩ = hh) (e3 : doG ps ⟨d, k, v, nn, t⟩ = g) (e4 : doK ps ⟨d, k, v, nn, t⟩ = ks) :
    Calls Try.prog 17 #[.agg #[.slice ao n cap], .agg #[.int .i64 d, .int .u64 k, .int .u64 v, .int .i64 nn, .int .i64 t]] w fun o w' => ∃ bo m cb ko kn kc, o = .returned (.tuple #[.agg #[.slice bo m cb], .agg #[.bool false, .bool hh, .int .u64 g, .slice ko kn kc]]) ∧ Hid (MpV w' bo m cb ps' ∧ kn = ks.length ∧ Sl w' ko ks) ∧ Kept [] w w' := by
  refine (do_any ao ps n cap ⟨d, k, v, nn, t⟩ w h hst hw hl).mono ?_
  rintro o w' ⟨bo, m, cb, ko, kn, kc, rfl, M, ek, S, K⟩
  rw [e1] at M
  rw [e4] at ek S
  exact ⟨bo, m, cb, ko, kn, kc, by rw [e2, e3], ⟨M, ek, S⟩, K⟩
end Go.Proofs.Ytapbkonfjieadaa.Q
