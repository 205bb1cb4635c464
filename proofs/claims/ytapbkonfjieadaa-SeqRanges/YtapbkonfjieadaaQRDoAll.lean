/-
  The contract of any op of the document's own map.
-/
import Derived.Test.YtapbkonfjieadaaQRDo1
import Derived.Test.YtapbkonfjieadaaQRDo2
import Derived.Test.YtapbkonfjieadaaQRDo3
import Derived.Test.YtapbkonfjieadaaQRDo4
import Derived.Test.YtapbkonfjieadaaQRDo5
import Derived.Test.YtapbkonfjieadaaQRDo6
namespace Go.Proofs.Ytapbkonfjieadaa.Q
open Go.RowKit
open Go.Deep
theorem rdo_any (ao : Option Addr) (ps : List Pr) (n cap : Nat) (op : OpQ) (w : World) (h : MpV w ao n cap ps) (hst : Str ps) (hl : n ≤ 1000) :
    Calls Try.prog 18 #[.slice ao n cap, .agg #[.int .i64 op.d, .int .u64 op.k, .int .u64 op.v, .int .i64 op.n, .int .i64 op.t]] w fun o w' => RDoP w ps op o w' := by
  by_cases h1 : op.d = 1
  · exact rdo_get ao ps n cap op w h hst hl h1
  · by_cases h2 : op.d = 2
    · exact rdo_put ao ps n cap op w h hst hl h2
    · by_cases h3 : op.d = 3
      · exact rdo_del ao ps n cap op w h hst hl h3
      · by_cases h4 : op.d = 4
        · exact rdo_ceil ao ps n cap op w h hst hl h4
        · by_cases h5 : op.d = 5
          · exact rdo_range ao ps n cap op w h hst hl h5
          · exact rdo_none ao ps n cap op w h hst hl (by omega)
end Go.Proofs.Ytapbkonfjieadaa.Q
