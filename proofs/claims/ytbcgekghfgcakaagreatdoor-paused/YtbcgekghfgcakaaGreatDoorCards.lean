/-
  DERIVED. GIVEN WITH THE SEED: THE CARDS: each row of YtbcgekghfgcakaaGreatDoorRows.lean that lists a variable, with what it lists TIED to the program's text (the seventh form; the later family's looks); each row that meets fmt, with fmt's text TOLD by the authors' own Lean function (tested against real Go, not proved from fmt's source: count such statements apart). THE CARD IS WHAT COUNTS. Prove the row's statement (the work); the ties are given (YtbcgekghfgcakaaGreatDoorTie.lean); close each card by the builder's one call (the guide's Derived/Test/ToyasCard.lean, 'card_holds'). Laid BY PROGRAM, IN A SANDBOX (cutbox-door.mjs). By AI agents, Wed Nov 11 2026. No macro, syntax, notation, axiom, sorry.
-/
import Derived.Test.YtbcgekghfgcakaaGreatDoorRows
import GoSem.ClaimSeven
namespace Go.Proofs.YtbcgekghfgcakaaGreatDoor
namespace Rows

/-- THE TIED CARD OF 'scoutkeep.Paused'. -/
def pausedCard : Claim7 := { stood := { row := pausedRow, standIns := [], harness := (true, "85bf3d274abfefb539058e197f75160dbded298537893834e5b3b05758bbc779"), looks := true }, kinds := [], alts := [], laidByText := true, laidKinds := [.data, .data, .data, .data, .sentinel, .sentinel], laidTests := true, laidLooks := .later }
def PausedCardSaid : Prop := Claim7.holds Tryz.pinned (.plain (OpenSpec.ofChange pausedSpec)) pausedCard

/-- THE SECOND FORM's CARD OF 'scoutkeep.Paused'. -/
def pausedUptoCard : Claim7 := { stood := { row := pausedUptoRow, standIns := [], harness := (true, "85bf3d274abfefb539058e197f75160dbded298537893834e5b3b05758bbc779"), looks := true }, kinds := [], alts := [], laidByText := true, laidKinds := [.data, .data, .data, .data, .sentinel, .sentinel], laidTests := true, laidLooks := .later }
def PausedUptoCardSaid : Prop := Claim7.holds Tryz.pinned (.plain (OpenSpec.upto pausedSpec)) pausedUptoCard
end Rows
end Go.Proofs.YtbcgekghfgcakaaGreatDoor
