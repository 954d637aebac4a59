/-
  DERIVED. GIVEN WITH THE SEED: THE CARDS: each row of YtdkdhcakoccpfaaGreatDoorRows.lean that lists a variable, with what it lists TIED to the program's text (the seventh form; the later family's looks); each row that meets fmt, with fmt's text TOLD by the authors' own Lean function (tested against real Go, not proved from fmt's source: count such statements apart). THE CARD IS WHAT COUNTS. Prove the row's statement (the work); the ties are given (YtdkdhcakoccpfaaGreatDoorTie.lean); close each card by the builder's one call (the guide's Derived/Test/ToyasCard.lean, 'card_holds'). Laid BY PROGRAM, IN A SANDBOX (cutbox-door.mjs). By AI agents, Wed Nov 11 2026. No macro, syntax, notation, axiom, sorry.
-/
import Derived.Test.YtdkdhcakoccpfaaGreatDoorRows
import GoSem.ClaimSeven
namespace Go.Proofs.YtdkdhcakoccpfaaGreatDoor
namespace Rows

/-- THE TIED CARD OF 'gazettelaw16.PartfsmDoes'. -/
def partfsmDoesCard : Claim7 := { stood := { row := partfsmDoesRow, standIns := [], harness := (true, "1ac84f29c95a3147aef42808762c7dd911e2f6ee35f14d871937f07d09b03f19"), looks := true }, kinds := [], alts := [], laidByText := true, laidKinds := [.handle, .sentinel], laidTests := true, laidLooks := .later }
def PartfsmDoesCardSaid : Prop := Claim7.holds Tryz.pinned (.plain (OpenSpec.ofChange partfsmDoesSpec)) partfsmDoesCard

/-- THE SECOND FORM's CARD OF 'gazettelaw16.PartfsmDoes'. -/
def partfsmDoesUptoCard : Claim7 := { stood := { row := partfsmDoesUptoRow, standIns := [], harness := (true, "1ac84f29c95a3147aef42808762c7dd911e2f6ee35f14d871937f07d09b03f19"), looks := true }, kinds := [], alts := [], laidByText := true, laidKinds := [.handle, .sentinel], laidTests := true, laidLooks := .later }
def PartfsmDoesUptoCardSaid : Prop := Claim7.holds Tryz.pinned (.plain (OpenSpec.upto partfsmDoesSpec)) partfsmDoesUptoCard
end Rows
end Go.Proofs.YtdkdhcakoccpfaaGreatDoor
