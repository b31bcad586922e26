/-
  DERIVED. GIVEN WITH THE SEED: THE CARDS: each row of YtjndadibondgbaaGreatDoorRows.lean that lists a variable, with what it lists TIED to the program's text (the seventh form; the later family's looks); each row that meets fmt, with fmt's text TOLD by the authors' own Lean function (tested against real Go, not proved from fmt's source: count such statements apart). THE CARD IS WHAT COUNTS. Prove the row's statement (the work); the ties are given (YtjndadibondgbaaGreatDoorTie.lean); close each card by the builder's one call (the guide's Derived/Test/ToyasCard.lean, 'card_holds'). Laid BY PROGRAM, IN A SANDBOX (cutbox-door.mjs). By AI agents, Wed Nov 11 2026. No macro, syntax, notation, axiom, sorry.
-/
import Derived.Test.YtjndadibondgbaaGreatDoorRows
import GoSem.ClaimSeven
namespace Go.Proofs.YtjndadibondgbaaGreatDoor
namespace Rows

/-- THE TIED CARD OF 'scoutkeep.Laid'. -/
def laidCard : Claim7 := { stood := { row := laidRow, standIns := [], harness := (true, "a7dcd1f91253e9dfe7abfe9f60107b077e1b41fa677ec380edf4210064b5e384"), looks := false }, kinds := [], alts := [], laidByText := true, laidKinds := [.data], laidTests := true, laidLooks := .later }
def LaidCardSaid : Prop := Claim7.holds Tryz.pinned (.plain (OpenSpec.ofChange laidSpec)) laidCard

/-- THE SECOND FORM's CARD OF 'scoutkeep.Laid'. -/
def laidUptoCard : Claim7 := { stood := { row := laidUptoRow, standIns := [], harness := (true, "a7dcd1f91253e9dfe7abfe9f60107b077e1b41fa677ec380edf4210064b5e384"), looks := false }, kinds := [], alts := [], laidByText := true, laidKinds := [.data], laidTests := true, laidLooks := .later }
def LaidUptoCardSaid : Prop := Claim7.holds Tryz.pinned (.plain (OpenSpec.upto laidSpec)) laidUptoCard
end Rows
end Go.Proofs.YtjndadibondgbaaGreatDoor
