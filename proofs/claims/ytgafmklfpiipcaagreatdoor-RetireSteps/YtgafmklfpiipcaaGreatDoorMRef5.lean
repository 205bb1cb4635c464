/-
  The document's own answers for layer 5: a world's words are a value (how great it is, and a bank); what each call makes of them.
-/
import Derived.Test.YtgafmklfpiipcaaGreatDoorMRef0
namespace Go.Proofs.YtgafmklfpiipcaaGreatDoor
open Go.RowKit (Grown Hid Below)
open Go.Deep
set_option maxRecDepth 100000
end Go.Proofs.YtgafmklfpiipcaaGreatDoor
