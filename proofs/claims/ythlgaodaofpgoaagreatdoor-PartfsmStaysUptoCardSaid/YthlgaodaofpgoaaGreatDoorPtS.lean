/-
  The functions, typed, continued.
-/
import Derived.Test.YthlgaodaofpgoaaGreatDoorPtSA
namespace Go.Proofs.YthlgaodaofpgoaaGreatDoor
set_option maxRecDepth 1000000
open Go.RowKit
end Go.Proofs.YthlgaodaofpgoaaGreatDoor
