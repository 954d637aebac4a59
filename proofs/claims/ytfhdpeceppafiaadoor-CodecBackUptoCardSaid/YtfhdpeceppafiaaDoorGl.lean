/-
  What stands in the program's variables that are never written: the table of sums; the handle of the type of errors.
-/
import Derived.WalkKit
namespace Go.Proofs.YtfhdpeceppafiaaDoor
def gl0 : List Int := [0, 274646895, 549293790, 820201905, 1098587580, 1361435347, 1640403810, 1905808397, 2197175160, 2460548119, 2722870694, 2987750089, 3280807620, 3553878443, 3811616794, 4084100981]
def gtab : List (Nat × List Value) := [(0, gl0.map (Value.int .u32)), (1, [.iface 155 (.agg #[.pointer (some ⟨2, 93, none⟩)])])]
def gnum : List (Nat × IntKind × List Int) := [(0, .u32, gl0)]
theorem gnum_ok : ∀ p ∈ gnum, (p.1, p.2.2.map (Value.int p.2.1)) ∈ gtab := fun p hp => by
  obtain rfl := List.mem_singleton.1 hp
  exact List.mem_cons_self ..
end Go.Proofs.YtfhdpeceppafiaaDoor
