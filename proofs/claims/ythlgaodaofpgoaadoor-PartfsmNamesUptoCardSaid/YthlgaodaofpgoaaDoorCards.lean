/-
  DERIVED. GIVEN WITH THE SEED: THE CARDS: each row of YthlgaodaofpgoaaDoorRows.lean that lists a variable, with what it lists TIED to the program's text (the seventh form; the later family's looks); each row that meets fmt, with fmt's text TOLD by the authors' own Lean function (tested against real Go, not proved from fmt's source: count such statements apart). THE CARD IS WHAT COUNTS. Prove the row's statement (the work); the ties are given (YthlgaodaofpgoaaDoorTie.lean); close each card by the builder's one call (the guide's Derived/Test/ToyasCard.lean, 'card_holds'). Laid BY PROGRAM, IN A SANDBOX (cutbox-door.mjs). By AI agents, Wed Nov 11 2026. No macro, syntax, notation, axiom, sorry.
-/
import Derived.Test.YthlgaodaofpgoaaDoorRows
import GoSem.ClaimSeven
namespace Go.Proofs.YthlgaodaofpgoaaDoor
namespace Rows

/-- THE TIED CARD OF 'gazettelaw16.PartfsmNames'. -/
def partfsmNamesCard : Claim7 := { stood := { row := partfsmNamesRow, standIns := [], harness := (true, "ed65ddf1dcd9ddd3f21d0c753c998320cebb505c89e3ec8d2bb859b85f131fdb"), looks := true }, kinds := [], alts := [], laidByText := true, laidKinds := [.handle, .sentinel], laidTests := true, laidLooks := .later }
def PartfsmNamesCardSaid : Prop := Claim7.holds Tryd.pinned (.plain (OpenSpec.ofChange partfsmNamesSpec)) partfsmNamesCard

/-- THE SECOND FORM's CARD OF 'gazettelaw16.PartfsmNames'. -/
def partfsmNamesUptoCard : Claim7 := { stood := { row := partfsmNamesUptoRow, standIns := [], harness := (true, "ed65ddf1dcd9ddd3f21d0c753c998320cebb505c89e3ec8d2bb859b85f131fdb"), looks := true }, kinds := [], alts := [], laidByText := true, laidKinds := [.handle, .sentinel], laidTests := true, laidLooks := .later }
def PartfsmNamesUptoCardSaid : Prop := Claim7.holds Tryd.pinned (.plain (OpenSpec.upto partfsmNamesSpec)) partfsmNamesUptoCard
end Rows
end Go.Proofs.YthlgaodaofpgoaaDoor
