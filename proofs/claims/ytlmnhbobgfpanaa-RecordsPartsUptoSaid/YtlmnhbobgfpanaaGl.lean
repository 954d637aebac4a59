/-
  What stands in the program's variables that are never written: all that is known; the rows of numbers among them. (None here.)
-/
import Derived.WalkKit
namespace Go.Proofs.Ytlmnhbobgfpanaa
def gtab : List (Nat × List Value) := []
def gnum : List (Nat × IntKind × List Int) := []
def gptr : List (Nat × Nat) := []
theorem gnum_ok : ∀ p ∈ gnum, (p.1, p.2.2.map (Value.int p.2.1)) ∈ gtab := fun p hp => by cases hp
end Go.Proofs.Ytlmnhbobgfpanaa
