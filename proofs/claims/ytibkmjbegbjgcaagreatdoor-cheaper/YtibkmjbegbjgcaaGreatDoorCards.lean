/-
  DERIVED. GIVEN WITH THE SEED: THE CARDS: each row of YtibkmjbegbjgcaaGreatDoorRows.lean that lists a variable, with what it lists TIED to the program's text (the seventh form; the later family's looks); each row that meets fmt, with fmt's text TOLD by the authors' own Lean function (tested against real Go, not proved from fmt's source: count such statements apart). THE CARD IS WHAT COUNTS. Prove the row's statement (the work); the ties are given (YtibkmjbegbjgcaaGreatDoorTie.lean); close each card by the builder's one call (the guide's Derived/Test/ToyasCard.lean, 'card_holds'). Laid BY PROGRAM, IN A SANDBOX (cutbox-door.mjs). By AI agents, Wed Nov 11 2026. No macro, syntax, notation, axiom, sorry.
-/
import Derived.Test.YtibkmjbegbjgcaaGreatDoorRows
import GoSem.ClaimSeven
namespace Go.Proofs.YtibkmjbegbjgcaaGreatDoor
namespace Rows

/-- THE TIED CARD OF 'scoutkeep.Cheaper'. -/
def cheaperCard : Claim7 := { stood := { row := cheaperRow, standIns := [], harness := (true, "0f8c6cdbe57c6017b2707d9e619bb81ca1e7ebbb356a96a1be3a2ea7bcaf1587"), looks := false }, kinds := [], alts := [], laidByText := true, laidKinds := [.data], laidTests := true, laidLooks := .later }
def CheaperCardSaid : Prop := Claim7.holds Tryz.pinned (.plain (OpenSpec.ofChange cheaperSpec)) cheaperCard

/-- THE SECOND FORM's CARD OF 'scoutkeep.Cheaper'. -/
def cheaperUptoCard : Claim7 := { stood := { row := cheaperUptoRow, standIns := [], harness := (true, "0f8c6cdbe57c6017b2707d9e619bb81ca1e7ebbb356a96a1be3a2ea7bcaf1587"), looks := false }, kinds := [], alts := [], laidByText := true, laidKinds := [.data], laidTests := true, laidLooks := .later }
def CheaperUptoCardSaid : Prop := Claim7.holds Tryz.pinned (.plain (OpenSpec.upto cheaperSpec)) cheaperUptoCard
end Rows
end Go.Proofs.YtibkmjbegbjgcaaGreatDoor
