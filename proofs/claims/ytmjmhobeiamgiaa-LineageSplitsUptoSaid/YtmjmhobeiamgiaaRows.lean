/-
  No cell of these rows narrows 'for every input' (looked for: loops, veiled, ifaces, maps, wideKeys, modest, calm, conditions, laid).
  DERIVED. THE GIVEN ROWS OF THIS SEAT. 6 by the template 'for every input the law returns true; each argument reads behind the call as it read before'; 0 by the template 'total and deterministic' (their statements: YtmjmhobeiamgiaaTotals.lean).
  GIVEN WITH THE SEED: the statements are not yours to turn. If you find one false, say at which input.
  Laid BY PROGRAM, IN A SANDBOX (cutbox-rows.mjs): the forced cells as the released guide's own fill.sh prints them over the translation 97825c630b2dec20… (all of the seat's roots in one cut). By AI agents, Wed Nov 11 2026. No macro, syntax, notation, axiom, sorry.
-/
import Derived.Test.YtmjmhobeiamgiaaChecked
import GoSem.Claim
import GoSem.ClaimJoined
import GoSem.ClaimMapViews
import Derived.JoinedTies
import Derived.KernelRfl
namespace Go.Proofs.Ytmjmhobeiamgiaa
/- THE CELL 'sum', in the pinned program and in every row, IS THE sha256 OF THE DUMP (.gsa) THAT YtmjmhobeiamgiaaProg.lean LOADS. Nothing in Lean hashes anything: it is a label: what it is worth is what the hold of that sum in a sandbox is worth. -/
noncomputable def Try.pinned : Pinned := { name := "ytmjmhobeiamgiaa", sum := "97825c630b2dec2057f41ea420ff48ed4cf8d6b573bbfa74cd5a8c558b1596ab", checked := Try.checked }
namespace Rows
def none {H : Type} : Left H := { results := [], args := [] }

/-- 'gazettelaw17.LineageNames': WHATEVER THE INPUT: true; the input reads as it did. -/
def lineageNamesSpec : ChangeSpec := { name := "lineageNames", fn := fun _ => fun
  | [] => { results := [.lit (.bool true)], args := [] }
  | _ => none }
def lineageNamesRow : OpenClaim := { program := "ytmjmhobeiamgiaa", sum := "97825c630b2dec2057f41ea420ff48ed4cf8d6b573bbfa74cd5a8c558b1596ab", func := "gazette/gazettelaw17.LineageNames", spec := "lineageNames", inPlace := ["internal/reflectlite.TypeOf", "slices.overlaps[gazette/api.Consumer]", "internal/bytealg.abigen_runtime_cmpstring"], unfollowed := true, recurses := true, apart := false }
def LineageNamesSaid : Prop := lineageNamesRow.holds Try.pinned (OpenSpec.ofChange lineageNamesSpec)

/-- ITS FALSE NEIGHBOUR: 'it returns false'. Refute it at one input. -/
def lineageNamesWrong : ChangeSpec := { name := "lineageNames", fn := fun _ => fun
  | [] => { results := [.lit (.bool false)], args := [] }
  | _ => none }
def LineageNamesWrongFalsely : Prop := lineageNamesRow.holds Try.pinned (OpenSpec.ofChange lineageNamesWrong)

/-- 'gazettelaw17.LineageSplits': WHATEVER THE INPUT: true; the input reads as it did. -/
def lineageSplitsSpec : ChangeSpec := { name := "lineageSplits", fn := fun _ => fun
  | [d1, d2] => { results := [.lit (.bool true)], args := [d1, d2] }
  | _ => none }
def lineageSplitsRow : OpenClaim := { program := "ytmjmhobeiamgiaa", sum := "97825c630b2dec2057f41ea420ff48ed4cf8d6b573bbfa74cd5a8c558b1596ab", func := "gazette/gazettelaw17.LineageSplits", spec := "lineageSplits", inPlace := ["internal/reflectlite.TypeOf"], unfollowed := true, recurses := true, apart := false }
def LineageSplitsSaid : Prop := lineageSplitsRow.holds Try.pinned (OpenSpec.ofChange lineageSplitsSpec)

/-- ITS FALSE NEIGHBOUR: 'it returns false'. Refute it at one input. -/
def lineageSplitsWrong : ChangeSpec := { name := "lineageSplits", fn := fun _ => fun
  | [d1, d2] => { results := [.lit (.bool false)], args := [d1, d2] }
  | _ => none }
def LineageSplitsWrongFalsely : Prop := lineageSplitsRow.holds Try.pinned (OpenSpec.ofChange lineageSplitsWrong)

/-- 'gazettelaw17.LineageKeeps': WHATEVER THE INPUT: true; the input reads as it did. -/
def lineageKeepsSpec : ChangeSpec := { name := "lineageKeeps", fn := fun _ => fun
  | [d1, d2, d3] => { results := [.lit (.bool true)], args := [d1, d2, d3] }
  | _ => none }
def lineageKeepsRow : OpenClaim := { program := "ytmjmhobeiamgiaa", sum := "97825c630b2dec2057f41ea420ff48ed4cf8d6b573bbfa74cd5a8c558b1596ab", func := "gazette/gazettelaw17.LineageKeeps", spec := "lineageKeeps", inPlace := ["internal/reflectlite.TypeOf", "slices.overlaps[gazette/api.Consumer]", "internal/bytealg.abigen_runtime_cmpstring"], unfollowed := true, recurses := true, apart := false }
def LineageKeepsSaid : Prop := lineageKeepsRow.holds Try.pinned (OpenSpec.ofChange lineageKeepsSpec)

/-- ITS FALSE NEIGHBOUR: 'it returns false'. Refute it at one input. -/
def lineageKeepsWrong : ChangeSpec := { name := "lineageKeeps", fn := fun _ => fun
  | [d1, d2, d3] => { results := [.lit (.bool false)], args := [d1, d2, d3] }
  | _ => none }
def LineageKeepsWrongFalsely : Prop := lineageKeepsRow.holds Try.pinned (OpenSpec.ofChange lineageKeepsWrong)

/-- 'gazettelaw17.LineageOnce': WHATEVER THE INPUT: true; the input reads as it did. -/
def lineageOnceSpec : ChangeSpec := { name := "lineageOnce", fn := fun _ => fun
  | [d1, d2, d3] => { results := [.lit (.bool true)], args := [d1, d2, d3] }
  | _ => none }
def lineageOnceRow : OpenClaim := { program := "ytmjmhobeiamgiaa", sum := "97825c630b2dec2057f41ea420ff48ed4cf8d6b573bbfa74cd5a8c558b1596ab", func := "gazette/gazettelaw17.LineageOnce", spec := "lineageOnce", inPlace := ["internal/reflectlite.TypeOf", "slices.overlaps[gazette/api.Consumer]", "internal/bytealg.abigen_runtime_cmpstring"], unfollowed := true, recurses := true, apart := false }
def LineageOnceSaid : Prop := lineageOnceRow.holds Try.pinned (OpenSpec.ofChange lineageOnceSpec)

/-- ITS FALSE NEIGHBOUR: 'it returns false'. Refute it at one input. -/
def lineageOnceWrong : ChangeSpec := { name := "lineageOnce", fn := fun _ => fun
  | [d1, d2, d3] => { results := [.lit (.bool false)], args := [d1, d2, d3] }
  | _ => none }
def LineageOnceWrongFalsely : Prop := lineageOnceRow.holds Try.pinned (OpenSpec.ofChange lineageOnceWrong)

/-- 'gazettelaw17.LineageBack': WHATEVER THE INPUT: true; the input reads as it did. -/
def lineageBackSpec : ChangeSpec := { name := "lineageBack", fn := fun _ => fun
  | [d1, d2] => { results := [.lit (.bool true)], args := [d1, d2] }
  | _ => none }
def lineageBackRow : OpenClaim := { program := "ytmjmhobeiamgiaa", sum := "97825c630b2dec2057f41ea420ff48ed4cf8d6b573bbfa74cd5a8c558b1596ab", func := "gazette/gazettelaw17.LineageBack", spec := "lineageBack", inPlace := ["internal/reflectlite.TypeOf", "slices.overlaps[gazette/api.Consumer]", "internal/bytealg.abigen_runtime_cmpstring"], unfollowed := true, recurses := true, apart := false }
def LineageBackSaid : Prop := lineageBackRow.holds Try.pinned (OpenSpec.ofChange lineageBackSpec)

/-- ITS FALSE NEIGHBOUR: 'it returns false'. Refute it at one input. -/
def lineageBackWrong : ChangeSpec := { name := "lineageBack", fn := fun _ => fun
  | [d1, d2] => { results := [.lit (.bool false)], args := [d1, d2] }
  | _ => none }
def LineageBackWrongFalsely : Prop := lineageBackRow.holds Try.pinned (OpenSpec.ofChange lineageBackWrong)

/-- 'gazettelaw17.LineageThree': WHATEVER THE INPUT: true; the input reads as it did. -/
def lineageThreeSpec : ChangeSpec := { name := "lineageThree", fn := fun _ => fun
  | [d1, d2, d3] => { results := [.lit (.bool true)], args := [d1, d2, d3] }
  | _ => none }
def lineageThreeRow : OpenClaim := { program := "ytmjmhobeiamgiaa", sum := "97825c630b2dec2057f41ea420ff48ed4cf8d6b573bbfa74cd5a8c558b1596ab", func := "gazette/gazettelaw17.LineageThree", spec := "lineageThree", inPlace := ["internal/reflectlite.TypeOf"], unfollowed := true, recurses := true, apart := false }
def LineageThreeSaid : Prop := lineageThreeRow.holds Try.pinned (OpenSpec.ofChange lineageThreeSpec)

/-- ITS FALSE NEIGHBOUR: 'it returns false'. Refute it at one input. -/
def lineageThreeWrong : ChangeSpec := { name := "lineageThree", fn := fun _ => fun
  | [d1, d2, d3] => { results := [.lit (.bool false)], args := [d1, d2, d3] }
  | _ => none }
def LineageThreeWrongFalsely : Prop := lineageThreeRow.holds Try.pinned (OpenSpec.ofChange lineageThreeWrong)

/- THE SECOND FORM. 'bulk': how many values and letters a reading holds, each counted each time it is reached (what is shared counts as often as it is met; a slice's spare places count too). A statement '..UptoSaid' is the law's where the arguments, and the package variables that the reading takes, are together of bulk at most 1048576: NARROWER than '..Said'. Prove '..Said' where nothing that the law and all that it calls make is longer than what came in: it says more and counts as full. Else prove '..UptoSaid'. A law counts once. -/
mutual
def uptoBulk {H : Type} : DataW H → Nat
  | .lit (.string bytes) => bytes.length + 1
  | .lit _ => 1
  | .nil => 1
  | .ptr d => uptoBulk d + 1
  | .slice elems spare => uptoBulkAll elems + uptoBulkAll spare + 1
  | .agg parts => uptoBulkAll parts + 1
  | .iface _ d => uptoBulk d + 1
  | .map entries => uptoBulkEntries entries + 1
  | .held _ => 1
def uptoBulkAll {H : Type} : List (DataW H) → Nat
  | [] => 0
  | d :: r => uptoBulk d + uptoBulkAll r
def uptoBulkEntries {H : Type} : List (Lit × DataW H) → Nat
  | [] => 0
  | x :: r => uptoBulkEntry x + uptoBulkEntries r
def uptoBulkEntry {H : Type} : Lit × DataW H → Nat
  | (.string bytes, d) => bytes.length + uptoBulk d + 1
  | (_, d) => uptoBulk d + 1
 end
def uptoSmall : (H : Type) → List (DataW H) → Bool := fun _ ds => decide (uptoBulkAll ds ≤ 1048576)
def OpenSpec.upto (s : _root_.Go.ChangeSpec) : _root_.Go.OpenSpec := { _root_.Go.OpenSpec.ofChange s with cond := some uptoSmall }

/-- 'gazettelaw17.LineageNames', WHERE WHAT IT READS IS OF BULK AT MOST 1048576: true; the input reads as it did. -/
def lineageNamesUptoRow : OpenClaim := { program := "ytmjmhobeiamgiaa", sum := "97825c630b2dec2057f41ea420ff48ed4cf8d6b573bbfa74cd5a8c558b1596ab", func := "gazette/gazettelaw17.LineageNames", spec := "lineageNames", inPlace := ["internal/reflectlite.TypeOf", "slices.overlaps[gazette/api.Consumer]", "internal/bytealg.abigen_runtime_cmpstring"], unfollowed := true, recurses := true, apart := false, narrowed := true }
def LineageNamesUptoSaid : Prop := lineageNamesUptoRow.holds Try.pinned (OpenSpec.upto lineageNamesSpec)

/-- 'gazettelaw17.LineageSplits', WHERE WHAT IT READS IS OF BULK AT MOST 1048576: true; the input reads as it did. -/
def lineageSplitsUptoRow : OpenClaim := { program := "ytmjmhobeiamgiaa", sum := "97825c630b2dec2057f41ea420ff48ed4cf8d6b573bbfa74cd5a8c558b1596ab", func := "gazette/gazettelaw17.LineageSplits", spec := "lineageSplits", inPlace := ["internal/reflectlite.TypeOf"], unfollowed := true, recurses := true, apart := false, narrowed := true }
def LineageSplitsUptoSaid : Prop := lineageSplitsUptoRow.holds Try.pinned (OpenSpec.upto lineageSplitsSpec)

/-- 'gazettelaw17.LineageKeeps', WHERE WHAT IT READS IS OF BULK AT MOST 1048576: true; the input reads as it did. -/
def lineageKeepsUptoRow : OpenClaim := { program := "ytmjmhobeiamgiaa", sum := "97825c630b2dec2057f41ea420ff48ed4cf8d6b573bbfa74cd5a8c558b1596ab", func := "gazette/gazettelaw17.LineageKeeps", spec := "lineageKeeps", inPlace := ["internal/reflectlite.TypeOf", "slices.overlaps[gazette/api.Consumer]", "internal/bytealg.abigen_runtime_cmpstring"], unfollowed := true, recurses := true, apart := false, narrowed := true }
def LineageKeepsUptoSaid : Prop := lineageKeepsUptoRow.holds Try.pinned (OpenSpec.upto lineageKeepsSpec)

/-- 'gazettelaw17.LineageOnce', WHERE WHAT IT READS IS OF BULK AT MOST 1048576: true; the input reads as it did. -/
def lineageOnceUptoRow : OpenClaim := { program := "ytmjmhobeiamgiaa", sum := "97825c630b2dec2057f41ea420ff48ed4cf8d6b573bbfa74cd5a8c558b1596ab", func := "gazette/gazettelaw17.LineageOnce", spec := "lineageOnce", inPlace := ["internal/reflectlite.TypeOf", "slices.overlaps[gazette/api.Consumer]", "internal/bytealg.abigen_runtime_cmpstring"], unfollowed := true, recurses := true, apart := false, narrowed := true }
def LineageOnceUptoSaid : Prop := lineageOnceUptoRow.holds Try.pinned (OpenSpec.upto lineageOnceSpec)

/-- 'gazettelaw17.LineageBack', WHERE WHAT IT READS IS OF BULK AT MOST 1048576: true; the input reads as it did. -/
def lineageBackUptoRow : OpenClaim := { program := "ytmjmhobeiamgiaa", sum := "97825c630b2dec2057f41ea420ff48ed4cf8d6b573bbfa74cd5a8c558b1596ab", func := "gazette/gazettelaw17.LineageBack", spec := "lineageBack", inPlace := ["internal/reflectlite.TypeOf", "slices.overlaps[gazette/api.Consumer]", "internal/bytealg.abigen_runtime_cmpstring"], unfollowed := true, recurses := true, apart := false, narrowed := true }
def LineageBackUptoSaid : Prop := lineageBackUptoRow.holds Try.pinned (OpenSpec.upto lineageBackSpec)

/-- 'gazettelaw17.LineageThree', WHERE WHAT IT READS IS OF BULK AT MOST 1048576: true; the input reads as it did. -/
def lineageThreeUptoRow : OpenClaim := { program := "ytmjmhobeiamgiaa", sum := "97825c630b2dec2057f41ea420ff48ed4cf8d6b573bbfa74cd5a8c558b1596ab", func := "gazette/gazettelaw17.LineageThree", spec := "lineageThree", inPlace := ["internal/reflectlite.TypeOf"], unfollowed := true, recurses := true, apart := false, narrowed := true }
def LineageThreeUptoSaid : Prop := lineageThreeUptoRow.holds Try.pinned (OpenSpec.upto lineageThreeSpec)

end Rows
end Go.Proofs.Ytmjmhobeiamgiaa
