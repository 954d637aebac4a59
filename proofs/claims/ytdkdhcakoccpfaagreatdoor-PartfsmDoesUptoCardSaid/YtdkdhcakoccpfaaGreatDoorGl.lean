/-
  What stands in the program's variables that are never written: the handle of the type of errors; the error that says that it was done.
-/
import Derived.WalkKit
namespace Go.Proofs.YtdkdhcakoccpfaaGreatDoor
def gtab:List (Nat×List Value) := [(1,[.iface 149 (.agg #[.pointer (some ⟨3,84,none⟩)])])]
def gptr:List (Nat×Nat) := [(0,181)]
end Go.Proofs.YtdkdhcakoccpfaaGreatDoor
