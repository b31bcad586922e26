/-
  DERIVED. GIVEN WITH THE SEED: THE CARDS: each row of YtfnnchibngigdaaGreatDoorRows.lean that lists a variable, with what it lists TIED to the program's text (the seventh form; the later family's looks); each row that meets fmt, with fmt's text TOLD by the authors' own Lean function (tested against real Go, not proved from fmt's source: count such statements apart). THE CARD IS WHAT COUNTS. Prove the row's statement (the work); the ties are given (YtfnnchibngigdaaGreatDoorTie.lean); close each card by the builder's one call (the guide's Derived/Test/ToyasCard.lean, 'card_holds'). Laid BY PROGRAM, IN A SANDBOX (cutbox-door.mjs). By AI agents, Wed Nov 11 2026. No macro, syntax, notation, axiom, sorry.
-/
import Derived.Test.YtfnnchibngigdaaGreatDoorRows
import GoSem.ClaimSeven
namespace Go.Proofs.YtfnnchibngigdaaGreatDoor
namespace Rows

/-- THE TIED CARD OF 'scoutlaw.Fairs'. -/
def fairsCard : Claim7 := { stood := { row := fairsRow, standIns := [], harness := (true, "b2fbca9e2b85f6e9d5675029b509f8d1cd186381b09bebd426a39a78fe84fe52"), looks := false }, kinds := [], alts := [], laidByText := true, laidKinds := [.data], laidTests := true, laidLooks := .later }
def FairsCardSaid : Prop := Claim7.holds Tryz.pinned (.plain (OpenSpec.ofChange fairsSpec)) fairsCard

/-- THE SECOND FORM's CARD OF 'scoutlaw.Fairs'. -/
def fairsUptoCard : Claim7 := { stood := { row := fairsUptoRow, standIns := [], harness := (true, "b2fbca9e2b85f6e9d5675029b509f8d1cd186381b09bebd426a39a78fe84fe52"), looks := false }, kinds := [], alts := [], laidByText := true, laidKinds := [.data], laidTests := true, laidLooks := .later }
def FairsUptoCardSaid : Prop := Claim7.holds Tryz.pinned (.plain (OpenSpec.upto fairsSpec)) fairsUptoCard
end Rows
end Go.Proofs.YtfnnchibngigdaaGreatDoor
