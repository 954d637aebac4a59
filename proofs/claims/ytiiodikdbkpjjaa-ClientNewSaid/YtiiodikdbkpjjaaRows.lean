/-
  No cell of these rows narrows 'for every input' (looked for: loops, veiled, ifaces, maps, wideKeys, modest, calm, conditions, laid).
  DERIVED. THE GIVEN ROWS OF THIS SEAT. 6 by the template 'for every input the law returns true; each argument reads behind the call as it read before'; 0 by the template 'total and deterministic' (their statements: YtiiodikdbkpjjaaTotals.lean).
  GIVEN WITH THE SEED: the statements are not yours to turn. If you find one false, say at which input.
  Laid BY PROGRAM, IN A SANDBOX (cutbox-rows.mjs): the forced cells as the released guide's own fill.sh prints them over the translation a3d0027a605d6c00… (all of the seat's roots in one cut). By AI agents, Wed Nov 11 2026. No macro, syntax, notation, axiom, sorry.
-/
import Derived.Test.YtiiodikdbkpjjaaChecked
import GoSem.Claim
import GoSem.ClaimJoined
import GoSem.ClaimMapViews
import Derived.JoinedTies
import Derived.KernelRfl
namespace Go.Proofs.Ytiiodikdbkpjjaa
/- THE CELL 'sum', in the pinned program and in every row, IS THE sha256 OF THE DUMP (.gsa) THAT YtiiodikdbkpjjaaProg.lean LOADS. Nothing in Lean hashes anything: it is a label: what it is worth is what the hold of that sum in a sandbox is worth. -/
noncomputable def Try.pinned : Pinned := { name := "ytiiodikdbkpjjaa", sum := "a3d0027a605d6c003629de05884060a008eec6399c744f2e4f59e17f72e83cff", checked := Try.checked }
namespace Rows
def none {H : Type} : Left H := { results := [], args := [] }

/-- 'gazettelaw21.ClientNew': WHATEVER THE INPUT: true; the input reads as it did. -/
def clientNewSpec : ChangeSpec := { name := "clientNew", fn := fun _ => fun
  | [d1, d2, d3] => { results := [.lit (.bool true)], args := [d1, d2, d3] }
  | _ => none }
def clientNewRow : OpenClaim := { program := "ytiiodikdbkpjjaa", sum := "a3d0027a605d6c003629de05884060a008eec6399c744f2e4f59e17f72e83cff", func := "gazette/gazettelaw21.ClientNew", spec := "clientNew", unfollowed := true, recurses := true, apart := false }
def ClientNewSaid : Prop := clientNewRow.holds Try.pinned (OpenSpec.ofChange clientNewSpec)

/-- ITS FALSE NEIGHBOUR: 'it returns false'. Refute it at one input. -/
def clientNewWrong : ChangeSpec := { name := "clientNew", fn := fun _ => fun
  | [d1, d2, d3] => { results := [.lit (.bool false)], args := [d1, d2, d3] }
  | _ => none }
def ClientNewWrongFalsely : Prop := clientNewRow.holds Try.pinned (OpenSpec.ofChange clientNewWrong)

/-- 'gazettelaw21.ClientSteps': WHATEVER THE INPUT: true; the input reads as it did. -/
def clientStepsSpec : ChangeSpec := { name := "clientSteps", fn := fun _ => fun
  | [d1, d2, d3] => { results := [.lit (.bool true)], args := [d1, d2, d3] }
  | _ => none }
def clientStepsRow : OpenClaim := { program := "ytiiodikdbkpjjaa", sum := "a3d0027a605d6c003629de05884060a008eec6399c744f2e4f59e17f72e83cff", func := "gazette/gazettelaw21.ClientSteps", spec := "clientSteps", unfollowed := true, recurses := true, apart := false }
def ClientStepsSaid : Prop := clientStepsRow.holds Try.pinned (OpenSpec.ofChange clientStepsSpec)

/-- ITS FALSE NEIGHBOUR: 'it returns false'. Refute it at one input. -/
def clientStepsWrong : ChangeSpec := { name := "clientSteps", fn := fun _ => fun
  | [d1, d2, d3] => { results := [.lit (.bool false)], args := [d1, d2, d3] }
  | _ => none }
def ClientStepsWrongFalsely : Prop := clientStepsRow.holds Try.pinned (OpenSpec.ofChange clientStepsWrong)

/-- 'gazettelaw21.ClientRule': WHATEVER THE INPUT: true; the input reads as it did. -/
def clientRuleSpec : ChangeSpec := { name := "clientRule", fn := fun _ => fun
  | [d1, d2, d3] => { results := [.lit (.bool true)], args := [d1, d2, d3] }
  | _ => none }
def clientRuleRow : OpenClaim := { program := "ytiiodikdbkpjjaa", sum := "a3d0027a605d6c003629de05884060a008eec6399c744f2e4f59e17f72e83cff", func := "gazette/gazettelaw21.ClientRule", spec := "clientRule", unfollowed := true, recurses := true, apart := false }
def ClientRuleSaid : Prop := clientRuleRow.holds Try.pinned (OpenSpec.ofChange clientRuleSpec)

/-- ITS FALSE NEIGHBOUR: 'it returns false'. Refute it at one input. -/
def clientRuleWrong : ChangeSpec := { name := "clientRule", fn := fun _ => fun
  | [d1, d2, d3] => { results := [.lit (.bool false)], args := [d1, d2, d3] }
  | _ => none }
def ClientRuleWrongFalsely : Prop := clientRuleRow.holds Try.pinned (OpenSpec.ofChange clientRuleWrong)

/-- 'gazettelaw21.ClientEnds': WHATEVER THE INPUT: true; the input reads as it did. -/
def clientEndsSpec : ChangeSpec := { name := "clientEnds", fn := fun _ => fun
  | [d1, d2, d3, d4] => { results := [.lit (.bool true)], args := [d1, d2, d3, d4] }
  | _ => none }
def clientEndsRow : OpenClaim := { program := "ytiiodikdbkpjjaa", sum := "a3d0027a605d6c003629de05884060a008eec6399c744f2e4f59e17f72e83cff", func := "gazette/gazettelaw21.ClientEnds", spec := "clientEnds", unfollowed := true, recurses := true, apart := false }
def ClientEndsSaid : Prop := clientEndsRow.holds Try.pinned (OpenSpec.ofChange clientEndsSpec)

/-- ITS FALSE NEIGHBOUR: 'it returns false'. Refute it at one input. -/
def clientEndsWrong : ChangeSpec := { name := "clientEnds", fn := fun _ => fun
  | [d1, d2, d3, d4] => { results := [.lit (.bool false)], args := [d1, d2, d3, d4] }
  | _ => none }
def ClientEndsWrongFalsely : Prop := clientEndsRow.holds Try.pinned (OpenSpec.ofChange clientEndsWrong)

/-- 'gazettelaw21.ClientFinds': WHATEVER THE INPUT: true; the input reads as it did. -/
def clientFindsSpec : ChangeSpec := { name := "clientFinds", fn := fun _ => fun
  | [d1, d2, d3] => { results := [.lit (.bool true)], args := [d1, d2, d3] }
  | _ => none }
def clientFindsRow : OpenClaim := { program := "ytiiodikdbkpjjaa", sum := "a3d0027a605d6c003629de05884060a008eec6399c744f2e4f59e17f72e83cff", func := "gazette/gazettelaw21.ClientFinds", spec := "clientFinds", unfollowed := true, recurses := true, apart := false }
def ClientFindsSaid : Prop := clientFindsRow.holds Try.pinned (OpenSpec.ofChange clientFindsSpec)

/-- ITS FALSE NEIGHBOUR: 'it returns false'. Refute it at one input. -/
def clientFindsWrong : ChangeSpec := { name := "clientFinds", fn := fun _ => fun
  | [d1, d2, d3] => { results := [.lit (.bool false)], args := [d1, d2, d3] }
  | _ => none }
def ClientFindsWrongFalsely : Prop := clientFindsRow.holds Try.pinned (OpenSpec.ofChange clientFindsWrong)

/-- 'gazettelaw21.ClientLate': WHATEVER THE INPUT: true; the input reads as it did. -/
def clientLateSpec : ChangeSpec := { name := "clientLate", fn := fun _ => fun
  | [d1, d2, d3, d4] => { results := [.lit (.bool true)], args := [d1, d2, d3, d4] }
  | _ => none }
def clientLateRow : OpenClaim := { program := "ytiiodikdbkpjjaa", sum := "a3d0027a605d6c003629de05884060a008eec6399c744f2e4f59e17f72e83cff", func := "gazette/gazettelaw21.ClientLate", spec := "clientLate", unfollowed := true, recurses := true, apart := false }
def ClientLateSaid : Prop := clientLateRow.holds Try.pinned (OpenSpec.ofChange clientLateSpec)

/-- ITS FALSE NEIGHBOUR: 'it returns false'. Refute it at one input. -/
def clientLateWrong : ChangeSpec := { name := "clientLate", fn := fun _ => fun
  | [d1, d2, d3, d4] => { results := [.lit (.bool false)], args := [d1, d2, d3, d4] }
  | _ => none }
def ClientLateWrongFalsely : Prop := clientLateRow.holds Try.pinned (OpenSpec.ofChange clientLateWrong)

/- THE SECOND FORM. 'bulk': how many values and letters a reading holds, each counted each time it is reached (what is shared counts as often as it is met; a slice's spare places count too). A statement '..UptoSaid' is the law's where the arguments, and the package variables that the reading takes, are together of bulk at most 1048576: NARROWER than '..Said'. Prove '..Said' where nothing that the law and all that it calls make is longer than what came in: it says more and counts as full. Else prove '..UptoSaid'. A law counts once. -/
mutual
def uptoBulk {H : Type} : DataW H → Nat
  | .lit (.string bytes) => bytes.length + 1
  | .lit _ => 1
  | .nil => 1
  | .ptr d => uptoBulk d + 1
  | .slice elems spare => uptoBulkAll elems + uptoBulkAll spare + 1
  | .agg parts => uptoBulkAll parts + 1
  | .iface _ d => uptoBulk d + 1
  | .map entries => uptoBulkEntries entries + 1
  | .held _ => 1
def uptoBulkAll {H : Type} : List (DataW H) → Nat
  | [] => 0
  | d :: r => uptoBulk d + uptoBulkAll r
def uptoBulkEntries {H : Type} : List (Lit × DataW H) → Nat
  | [] => 0
  | x :: r => uptoBulkEntry x + uptoBulkEntries r
def uptoBulkEntry {H : Type} : Lit × DataW H → Nat
  | (.string bytes, d) => bytes.length + uptoBulk d + 1
  | (_, d) => uptoBulk d + 1
 end
def uptoSmall : (H : Type) → List (DataW H) → Bool := fun _ ds => decide (uptoBulkAll ds ≤ 1048576)
def OpenSpec.upto (s : _root_.Go.ChangeSpec) : _root_.Go.OpenSpec := { _root_.Go.OpenSpec.ofChange s with cond := some uptoSmall }

/-- 'gazettelaw21.ClientNew', WHERE WHAT IT READS IS OF BULK AT MOST 1048576: true; the input reads as it did. -/
def clientNewUptoRow : OpenClaim := { program := "ytiiodikdbkpjjaa", sum := "a3d0027a605d6c003629de05884060a008eec6399c744f2e4f59e17f72e83cff", func := "gazette/gazettelaw21.ClientNew", spec := "clientNew", unfollowed := true, recurses := true, apart := false, narrowed := true }
def ClientNewUptoSaid : Prop := clientNewUptoRow.holds Try.pinned (OpenSpec.upto clientNewSpec)

/-- 'gazettelaw21.ClientSteps', WHERE WHAT IT READS IS OF BULK AT MOST 1048576: true; the input reads as it did. -/
def clientStepsUptoRow : OpenClaim := { program := "ytiiodikdbkpjjaa", sum := "a3d0027a605d6c003629de05884060a008eec6399c744f2e4f59e17f72e83cff", func := "gazette/gazettelaw21.ClientSteps", spec := "clientSteps", unfollowed := true, recurses := true, apart := false, narrowed := true }
def ClientStepsUptoSaid : Prop := clientStepsUptoRow.holds Try.pinned (OpenSpec.upto clientStepsSpec)

/-- 'gazettelaw21.ClientRule', WHERE WHAT IT READS IS OF BULK AT MOST 1048576: true; the input reads as it did. -/
def clientRuleUptoRow : OpenClaim := { program := "ytiiodikdbkpjjaa", sum := "a3d0027a605d6c003629de05884060a008eec6399c744f2e4f59e17f72e83cff", func := "gazette/gazettelaw21.ClientRule", spec := "clientRule", unfollowed := true, recurses := true, apart := false, narrowed := true }
def ClientRuleUptoSaid : Prop := clientRuleUptoRow.holds Try.pinned (OpenSpec.upto clientRuleSpec)

/-- 'gazettelaw21.ClientEnds', WHERE WHAT IT READS IS OF BULK AT MOST 1048576: true; the input reads as it did. -/
def clientEndsUptoRow : OpenClaim := { program := "ytiiodikdbkpjjaa", sum := "a3d0027a605d6c003629de05884060a008eec6399c744f2e4f59e17f72e83cff", func := "gazette/gazettelaw21.ClientEnds", spec := "clientEnds", unfollowed := true, recurses := true, apart := false, narrowed := true }
def ClientEndsUptoSaid : Prop := clientEndsUptoRow.holds Try.pinned (OpenSpec.upto clientEndsSpec)

/-- 'gazettelaw21.ClientFinds', WHERE WHAT IT READS IS OF BULK AT MOST 1048576: true; the input reads as it did. -/
def clientFindsUptoRow : OpenClaim := { program := "ytiiodikdbkpjjaa", sum := "a3d0027a605d6c003629de05884060a008eec6399c744f2e4f59e17f72e83cff", func := "gazette/gazettelaw21.ClientFinds", spec := "clientFinds", unfollowed := true, recurses := true, apart := false, narrowed := true }
def ClientFindsUptoSaid : Prop := clientFindsUptoRow.holds Try.pinned (OpenSpec.upto clientFindsSpec)

/-- 'gazettelaw21.ClientLate', WHERE WHAT IT READS IS OF BULK AT MOST 1048576: true; the input reads as it did. -/
def clientLateUptoRow : OpenClaim := { program := "ytiiodikdbkpjjaa", sum := "a3d0027a605d6c003629de05884060a008eec6399c744f2e4f59e17f72e83cff", func := "gazette/gazettelaw21.ClientLate", spec := "clientLate", unfollowed := true, recurses := true, apart := false, narrowed := true }
def ClientLateUptoSaid : Prop := clientLateUptoRow.holds Try.pinned (OpenSpec.upto clientLateSpec)

end Rows
end Go.Proofs.Ytiiodikdbkpjjaa
