/-
  The law's own word that a world's words are the document's; and both of a world with such words.
-/
import Derived.Test.YtgafmklfpiipcaaDoorMNewR
namespace Go.Proofs.YtgafmklfpiipcaaDoor
open Go.ChangeShapes Go.WideShapes Go.ChangeAt Go.RowKit
open Go.Deep
set_option maxRecDepth 100000
end Go.Proofs.YtgafmklfpiipcaaDoor
