/-
  The names: the function's value.
-/
import Derived.Test.YthlgaodaofpgoaaDoorPtN
namespace Go.Proofs.YthlgaodaofpgoaaDoor
set_option maxRecDepth 100000 in
theorem partfsmNames_is : p3 600 () = some ((), true) := by kernel_rfl
end Go.Proofs.YthlgaodaofpgoaaDoor
