/-
  The functions, typed, continued.
-/
import Derived.Test.YtmjmhobeiamgiaaPtKA
namespace Go.Proofs.Ytmjmhobeiamgiaa
set_option maxRecDepth 1000000
open Go.RowKit
end Go.Proofs.Ytmjmhobeiamgiaa
