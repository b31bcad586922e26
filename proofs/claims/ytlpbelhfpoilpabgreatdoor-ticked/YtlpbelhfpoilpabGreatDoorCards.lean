/-
  DERIVED. GIVEN WITH THE SEED: THE CARDS: each row of YtlpbelhfpoilpabGreatDoorRows.lean that lists a variable, with what it lists TIED to the program's text (the seventh form; the later family's looks); each row that meets fmt, with fmt's text TOLD by the authors' own Lean function (tested against real Go, not proved from fmt's source: count such statements apart). THE CARD IS WHAT COUNTS. Prove the row's statement (the work); the ties are given (YtlpbelhfpoilpabGreatDoorTie.lean); close each card by the builder's one call (the guide's Derived/Test/ToyasCard.lean, 'card_holds'). Laid BY PROGRAM, IN A SANDBOX (cutbox-door.mjs). By AI agents, Wed Nov 11 2026. No macro, syntax, notation, axiom, sorry.
-/
import Derived.Test.YtlpbelhfpoilpabGreatDoorRows
import GoSem.ClaimSeven
namespace Go.Proofs.YtlpbelhfpoilpabGreatDoor
namespace Rows

/-- THE TIED CARD OF 'scoutkeep.Ticked'. -/
def tickedCard : Claim7 := { stood := { row := tickedRow, standIns := [], harness := (true, "31f9851a2c4f6fbafad72a06bfc624634ba5864071a84a00f3c35cd7245c2c3b"), looks := false }, kinds := [], alts := [], laidByText := true, laidKinds := [.data], laidTests := true, laidLooks := .later }
def TickedCardSaid : Prop := Claim7.holds Tryz.pinned (.plain (OpenSpec.ofChange tickedSpec)) tickedCard

/-- THE SECOND FORM's CARD OF 'scoutkeep.Ticked'. -/
def tickedUptoCard : Claim7 := { stood := { row := tickedUptoRow, standIns := [], harness := (true, "31f9851a2c4f6fbafad72a06bfc624634ba5864071a84a00f3c35cd7245c2c3b"), looks := false }, kinds := [], alts := [], laidByText := true, laidKinds := [.data], laidTests := true, laidLooks := .later }
def TickedUptoCardSaid : Prop := Claim7.holds Tryz.pinned (.plain (OpenSpec.upto tickedSpec)) tickedUptoCard
end Rows
end Go.Proofs.YtlpbelhfpoilpabGreatDoor
