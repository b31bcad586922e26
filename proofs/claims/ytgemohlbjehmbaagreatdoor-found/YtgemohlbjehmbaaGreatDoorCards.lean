/-
  DERIVED. GIVEN WITH THE SEED: THE CARDS: each row of YtgemohlbjehmbaaGreatDoorRows.lean that lists a variable, with what it lists TIED to the program's text (the seventh form; the later family's looks); each row that meets fmt, with fmt's text TOLD by the authors' own Lean function (tested against real Go, not proved from fmt's source: count such statements apart). THE CARD IS WHAT COUNTS. Prove the row's statement (the work); the ties are given (YtgemohlbjehmbaaGreatDoorTie.lean); close each card by the builder's one call (the guide's Derived/Test/ToyasCard.lean, 'card_holds'). Laid BY PROGRAM, IN A SANDBOX (cutbox-door.mjs). By AI agents, Wed Nov 11 2026. No macro, syntax, notation, axiom, sorry.
-/
import Derived.Test.YtgemohlbjehmbaaGreatDoorRows
import GoSem.ClaimSeven
namespace Go.Proofs.YtgemohlbjehmbaaGreatDoor
namespace Rows

/-- THE TIED CARD OF 'scoutkeep.Found'. -/
def foundCard : Claim7 := { stood := { row := foundRow, standIns := [], harness := (true, "ae9c79945fc6b46c4937ea3f0fa8c702b160decded009cbf2d5fb701b496046b"), looks := false }, kinds := [], alts := [], laidByText := true, laidKinds := [.data], laidTests := true, laidLooks := .later }
def FoundCardSaid : Prop := Claim7.holds Tryz.pinned (.plain (OpenSpec.ofChange foundSpec)) foundCard

/-- THE SECOND FORM's CARD OF 'scoutkeep.Found'. -/
def foundUptoCard : Claim7 := { stood := { row := foundUptoRow, standIns := [], harness := (true, "ae9c79945fc6b46c4937ea3f0fa8c702b160decded009cbf2d5fb701b496046b"), looks := false }, kinds := [], alts := [], laidByText := true, laidKinds := [.data], laidTests := true, laidLooks := .later }
def FoundUptoCardSaid : Prop := Claim7.holds Tryz.pinned (.plain (OpenSpec.upto foundSpec)) foundUptoCard
end Rows
end Go.Proofs.YtgemohlbjehmbaaGreatDoor
