/-
  DERIVED. GIVEN WITH THE SEED: THE CARDS: each row of YtpcfbajdeipgbaaGreatDoorRows.lean that lists a variable, with what it lists TIED to the program's text (the seventh form; the later family's looks); each row that meets fmt, with fmt's text TOLD by the authors' own Lean function (tested against real Go, not proved from fmt's source: count such statements apart). THE CARD IS WHAT COUNTS. Prove the row's statement (the work); the ties are given (YtpcfbajdeipgbaaGreatDoorTie.lean); close each card by the builder's one call (the guide's Derived/Test/ToyasCard.lean, 'card_holds'). Laid BY PROGRAM, IN A SANDBOX (cutbox-door.mjs). By AI agents, Wed Nov 11 2026. No macro, syntax, notation, axiom, sorry.
-/
import Derived.Test.YtpcfbajdeipgbaaGreatDoorRows
import GoSem.ClaimSeven
namespace Go.Proofs.YtpcfbajdeipgbaaGreatDoor
namespace Rows

/-- THE TIED CARD OF 'scoutlaw.Execs'. -/
def execsCard : Claim7 := { stood := { row := execsRow, standIns := [], harness := (true, "eedbea6019e75bea6b87955c49c7d316b813b02485ee51d8814a10e2530d65cf"), looks := false }, kinds := [], alts := [], laidByText := true, laidKinds := [.data], laidTests := true, laidLooks := .later }
def ExecsCardSaid : Prop := Claim7.holds Tryz.pinned (.plain (OpenSpec.ofChange execsSpec)) execsCard

/-- THE SECOND FORM's CARD OF 'scoutlaw.Execs'. -/
def execsUptoCard : Claim7 := { stood := { row := execsUptoRow, standIns := [], harness := (true, "eedbea6019e75bea6b87955c49c7d316b813b02485ee51d8814a10e2530d65cf"), looks := false }, kinds := [], alts := [], laidByText := true, laidKinds := [.data], laidTests := true, laidLooks := .later }
def ExecsUptoCardSaid : Prop := Claim7.holds Tryz.pinned (.plain (OpenSpec.upto execsSpec)) execsUptoCard
end Rows
end Go.Proofs.YtpcfbajdeipgbaaGreatDoor
