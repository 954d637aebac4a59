/-
  What stands in the program's variables that are never written: the handle of the type of errors; the error that says that it was done.
-/
import Derived.WalkKit
namespace Go.Proofs.YthlgaodaofpgoaaGreatDoor
def gtab:List (Nat×List Value) := [(1,[.iface 190 (.agg #[.pointer (some ⟨3,99,none⟩)])])]
def gnum:List (Nat×IntKind×List Int) := []
def gptr:List (Nat×Nat) := [(0,227)]
theorem K8c:∀ p ∈ gnum,(p.1,p.2.2.map (Value.int p.2.1)) ∈ gtab := fun p hp=>by cases hp
end Go.Proofs.YthlgaodaofpgoaaGreatDoor
