/-
  What stands in the program's variables that are never written: all that is known; the rows of numbers among them. (None here.)
-/
import Derived.WalkKit
namespace Go.Proofs.Ytnhniiannbimgaa
def gtab:List (Nat×List Value) := []
def gptr:List (Nat×Nat) := []
end Go.Proofs.Ytnhniiannbimgaa
