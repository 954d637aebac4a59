/-
  What stands in the program's variables that are never written: the handle of the type of errors.
-/
import Derived.WalkKit
namespace Go.Proofs.YtahamggipcikgaaDoor
def gtab:List (Nat×List Value) := [(0,[.iface 132 (.agg #[.pointer (some ⟨1,77,none⟩)])])]
def gnum:List (Nat×IntKind×List Int) := []
def gptr:List (Nat×Nat) := []
theorem gnum_ok:∀ p ∈ gnum,(p.1,p.2.2.map (Value.int p.2.1)) ∈ gtab := fun p hp=>by cases hp
end Go.Proofs.YtahamggipcikgaaDoor
