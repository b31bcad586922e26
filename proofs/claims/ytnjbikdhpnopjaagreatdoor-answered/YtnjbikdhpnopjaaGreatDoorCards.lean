/-
  DERIVED. GIVEN WITH THE SEED: THE CARDS: each row of YtnjbikdhpnopjaaGreatDoorRows.lean that lists a variable, with what it lists TIED to the program's text (the seventh form; the later family's looks); each row that meets fmt, with fmt's text TOLD by the authors' own Lean function (tested against real Go, not proved from fmt's source: count such statements apart). THE CARD IS WHAT COUNTS. Prove the row's statement (the work); the ties are given (YtnjbikdhpnopjaaGreatDoorTie.lean); close each card by the builder's one call (the guide's Derived/Test/ToyasCard.lean, 'card_holds'). Laid BY PROGRAM, IN A SANDBOX (cutbox-door.mjs). By AI agents, Wed Nov 11 2026. No macro, syntax, notation, axiom, sorry.
-/
import Derived.Test.YtnjbikdhpnopjaaGreatDoorRows
import GoSem.ClaimSeven
namespace Go.Proofs.YtnjbikdhpnopjaaGreatDoor
namespace Rows

/-- THE TIED CARD OF 'scoutkeep.Answered'. -/
def answeredCard : Claim7 := { stood := { row := answeredRow, standIns := [], harness := (true, "e78d64e75df62fba10913a3a3cb089752e0fc84eccafdbcfdd135f0b8458124e"), looks := false }, kinds := [], alts := [], laidByText := true, laidKinds := [.data], laidTests := true, laidLooks := .later }
def AnsweredCardSaid : Prop := Claim7.holds Tryz.pinned (.plain (OpenSpec.ofChange answeredSpec)) answeredCard

/-- THE SECOND FORM's CARD OF 'scoutkeep.Answered'. -/
def answeredUptoCard : Claim7 := { stood := { row := answeredUptoRow, standIns := [], harness := (true, "e78d64e75df62fba10913a3a3cb089752e0fc84eccafdbcfdd135f0b8458124e"), looks := false }, kinds := [], alts := [], laidByText := true, laidKinds := [.data], laidTests := true, laidLooks := .later }
def AnsweredUptoCardSaid : Prop := Claim7.holds Tryz.pinned (.plain (OpenSpec.upto answeredSpec)) answeredUptoCard
end Rows
end Go.Proofs.YtnjbikdhpnopjaaGreatDoor
