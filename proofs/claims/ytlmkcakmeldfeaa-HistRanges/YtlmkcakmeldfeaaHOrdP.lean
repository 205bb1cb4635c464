/-
  What an order tells: places in a slice.
-/
import Derived.Test.YtlmkcakmeldfeaaHOrdM
import Derived.Test.YtlmkcakmeldfeaaHOwn
namespace Go.Proofs.Ytlmkcakmeldfeaa.Q
open Go.RowKit
open Go.Deep
def OrdP (w : World) (es : List Ev) (e : Ending) (w' : World) : Prop := ∃ (ord : List Nat) (bo : Option Addr) (m c' : Nat), e = .returned (.slice bo m c') ∧ m = ord.length ∧ IsOrd es ord ∧ SlI w' bo ord ∧ Kept [] w w'
theorem OrdP.mk {w w' : World} {es : List Ev} {e : Ending} (ord : List Nat) (bo : Option Addr) (m c' : Nat) (h : e = .returned (.slice bo m c')) (hm : m = ord.length) (h2 : IsOrd es ord) (h3 : SlI w' bo ord) (h4 : Kept [] w w') : OrdP w es e w' := ⟨ord, bo, m, c', h, hm, h2, h3, h4⟩
end Go.Proofs.Ytlmkcakmeldfeaa.Q
