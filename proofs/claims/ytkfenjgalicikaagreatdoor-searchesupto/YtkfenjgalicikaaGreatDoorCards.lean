/-
  DERIVED. GIVEN WITH THE SEED: THE CARDS: each row of YtkfenjgalicikaaGreatDoorRows.lean that lists a variable, with what it lists TIED to the program's text (the seventh form; the later family's looks); each row that meets fmt, with fmt's text TOLD by the authors' own Lean function (tested against real Go, not proved from fmt's source: count such statements apart). THE CARD IS WHAT COUNTS. Prove the row's statement (the work); the ties are given (YtkfenjgalicikaaGreatDoorTie.lean); close each card by the builder's one call (the guide's Derived/Test/ToyasCard.lean, 'card_holds'). Laid BY PROGRAM, IN A SANDBOX (cutbox-door.mjs). By AI agents, Wed Nov 11 2026. No macro, syntax, notation, axiom, sorry.
-/
import Derived.Test.YtkfenjgalicikaaGreatDoorRows
import GoSem.ClaimSeven
namespace Go.Proofs.YtkfenjgalicikaaGreatDoor
namespace Rows

/-- THE TIED CARD OF 'scoutlaw.Searches'. -/
def searchesCard : Claim7 := { stood := { row := searchesRow, standIns := [], harness := (true, "f663c62b22851535bc318a3dc036b7a154684546bbab632b566c885d472c61ed"), looks := true }, kinds := [], alts := [], laidByText := true, laidKinds := [.data, .data, .data, .data, .sentinel, .sentinel], laidTests := true, laidLooks := .later }
def SearchesCardSaid : Prop := Claim7.holds Tryz.pinned (.plain (OpenSpec.ofChange searchesSpec)) searchesCard

/-- THE SECOND FORM's CARD OF 'scoutlaw.Searches'. -/
def searchesUptoCard : Claim7 := { stood := { row := searchesUptoRow, standIns := [], harness := (true, "f663c62b22851535bc318a3dc036b7a154684546bbab632b566c885d472c61ed"), looks := true }, kinds := [], alts := [], laidByText := true, laidKinds := [.data, .data, .data, .data, .sentinel, .sentinel], laidTests := true, laidLooks := .later }
def SearchesUptoCardSaid : Prop := Claim7.holds Tryz.pinned (.plain (OpenSpec.upto searchesSpec)) searchesUptoCard
end Rows
end Go.Proofs.YtkfenjgalicikaaGreatDoor
