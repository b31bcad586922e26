/-
  DERIVED. GIVEN WITH THE SEED: THE CARDS: each row of YtlpbelhfpoilpaaGreatDoorRRows.lean that lists a variable, with what it lists TIED to the program's text (the seventh form; the later family's looks); each row that meets fmt, with fmt's text TOLD by the authors' own Lean function (tested against real Go, not proved from fmt's source: count such statements apart). THE CARD IS WHAT COUNTS. Prove the row's statement (the work); the ties are given (YtlpbelhfpoilpaaGreatDoorRTie.lean); close each card by the builder's one call (the guide's Derived/Test/ToyasCard.lean, 'card_holds'). Laid BY PROGRAM, IN A SANDBOX (cutbox-door.mjs). By AI agents, Wed Nov 11 2026. No macro, syntax, notation, axiom, sorry.
-/
import Derived.Test.YtlpbelhfpoilpaaGreatDoorRRows
import GoSem.ClaimSeven
namespace Go.Proofs.YtlpbelhfpoilpaaGreatDoorR
namespace Rows

/-- THE TIED CARD OF 'scoutlaw.Fairs'. -/
def fairsCard : Claim7 := { stood := { row := fairsRow, standIns := [], harness := (true, "c353e673851586e04379c3425b090c6bb1642b7c97061ff9b1cedb23cd835037"), looks := true }, kinds := [], alts := [], laidByText := true, laidKinds := [.data], laidTests := true, laidLooks := .later }
def FairsCardSaid : Prop := Claim7.holds Tryz.pinned (.plain (OpenSpec.ofChange fairsSpec)) fairsCard

/-- THE TIED CARD OF 'scoutlaw.Execs'. -/
def execsCard : Claim7 := { stood := { row := execsRow, standIns := [], harness := (true, "c353e673851586e04379c3425b090c6bb1642b7c97061ff9b1cedb23cd835037"), looks := true }, kinds := [], alts := [], laidByText := true, laidKinds := [.data], laidTests := true, laidLooks := .later }
def ExecsCardSaid : Prop := Claim7.holds Tryz.pinned (.plain (OpenSpec.ofChange execsSpec)) execsCard

/-- THE TIED CARD OF 'scoutkeep.Laid'. -/
def laidCard : Claim7 := { stood := { row := laidRow, standIns := [], harness := (true, "c353e673851586e04379c3425b090c6bb1642b7c97061ff9b1cedb23cd835037"), looks := true }, kinds := [], alts := [], laidByText := true, laidKinds := [.data], laidTests := true, laidLooks := .later }
def LaidCardSaid : Prop := Claim7.holds Tryz.pinned (.plain (OpenSpec.ofChange laidSpec)) laidCard

/-- THE TIED CARD OF 'scoutkeep.Answered'. -/
def answeredCard : Claim7 := { stood := { row := answeredRow, standIns := [], harness := (true, "c353e673851586e04379c3425b090c6bb1642b7c97061ff9b1cedb23cd835037"), looks := true }, kinds := [], alts := [], laidByText := true, laidKinds := [.data], laidTests := true, laidLooks := .later }
def AnsweredCardSaid : Prop := Claim7.holds Tryz.pinned (.plain (OpenSpec.ofChange answeredSpec)) answeredCard

/-- THE TIED CARD OF 'scoutkeep.Cheaper'. -/
def cheaperCard : Claim7 := { stood := { row := cheaperRow, standIns := [], harness := (true, "c353e673851586e04379c3425b090c6bb1642b7c97061ff9b1cedb23cd835037"), looks := true }, kinds := [], alts := [], laidByText := true, laidKinds := [.data], laidTests := true, laidLooks := .later }
def CheaperCardSaid : Prop := Claim7.holds Tryz.pinned (.plain (OpenSpec.ofChange cheaperSpec)) cheaperCard

/-- THE TIED CARD OF 'scoutkeep.Found'. -/
def foundCard : Claim7 := { stood := { row := foundRow, standIns := [], harness := (true, "c353e673851586e04379c3425b090c6bb1642b7c97061ff9b1cedb23cd835037"), looks := true }, kinds := [], alts := [], laidByText := true, laidKinds := [.data], laidTests := true, laidLooks := .later }
def FoundCardSaid : Prop := Claim7.holds Tryz.pinned (.plain (OpenSpec.ofChange foundSpec)) foundCard

/-- THE TIED CARD OF 'scoutkeep.Paused'. -/
def pausedCard : Claim7 := { stood := { row := pausedRow, standIns := [], harness := (true, "c353e673851586e04379c3425b090c6bb1642b7c97061ff9b1cedb23cd835037"), looks := true }, kinds := [], alts := [], laidByText := true, laidKinds := [.data, .data, .data, .data, .sentinel, .sentinel], laidTests := true, laidLooks := .later }
def PausedCardSaid : Prop := Claim7.holds Tryz.pinned (.plain (OpenSpec.ofChange pausedSpec)) pausedCard

/-- THE SECOND FORM's CARD OF 'scoutlaw.Fairs'. -/
def fairsUptoCard : Claim7 := { stood := { row := fairsUptoRow, standIns := [], harness := (true, "c353e673851586e04379c3425b090c6bb1642b7c97061ff9b1cedb23cd835037"), looks := true }, kinds := [], alts := [], laidByText := true, laidKinds := [.data], laidTests := true, laidLooks := .later }
def FairsUptoCardSaid : Prop := Claim7.holds Tryz.pinned (.plain (OpenSpec.upto fairsSpec)) fairsUptoCard

/-- THE SECOND FORM's CARD OF 'scoutlaw.Execs'. -/
def execsUptoCard : Claim7 := { stood := { row := execsUptoRow, standIns := [], harness := (true, "c353e673851586e04379c3425b090c6bb1642b7c97061ff9b1cedb23cd835037"), looks := true }, kinds := [], alts := [], laidByText := true, laidKinds := [.data], laidTests := true, laidLooks := .later }
def ExecsUptoCardSaid : Prop := Claim7.holds Tryz.pinned (.plain (OpenSpec.upto execsSpec)) execsUptoCard

/-- THE SECOND FORM's CARD OF 'scoutkeep.Laid'. -/
def laidUptoCard : Claim7 := { stood := { row := laidUptoRow, standIns := [], harness := (true, "c353e673851586e04379c3425b090c6bb1642b7c97061ff9b1cedb23cd835037"), looks := true }, kinds := [], alts := [], laidByText := true, laidKinds := [.data], laidTests := true, laidLooks := .later }
def LaidUptoCardSaid : Prop := Claim7.holds Tryz.pinned (.plain (OpenSpec.upto laidSpec)) laidUptoCard

/-- THE SECOND FORM's CARD OF 'scoutkeep.Answered'. -/
def answeredUptoCard : Claim7 := { stood := { row := answeredUptoRow, standIns := [], harness := (true, "c353e673851586e04379c3425b090c6bb1642b7c97061ff9b1cedb23cd835037"), looks := true }, kinds := [], alts := [], laidByText := true, laidKinds := [.data], laidTests := true, laidLooks := .later }
def AnsweredUptoCardSaid : Prop := Claim7.holds Tryz.pinned (.plain (OpenSpec.upto answeredSpec)) answeredUptoCard

/-- THE SECOND FORM's CARD OF 'scoutkeep.Cheaper'. -/
def cheaperUptoCard : Claim7 := { stood := { row := cheaperUptoRow, standIns := [], harness := (true, "c353e673851586e04379c3425b090c6bb1642b7c97061ff9b1cedb23cd835037"), looks := true }, kinds := [], alts := [], laidByText := true, laidKinds := [.data], laidTests := true, laidLooks := .later }
def CheaperUptoCardSaid : Prop := Claim7.holds Tryz.pinned (.plain (OpenSpec.upto cheaperSpec)) cheaperUptoCard

/-- THE SECOND FORM's CARD OF 'scoutkeep.Found'. -/
def foundUptoCard : Claim7 := { stood := { row := foundUptoRow, standIns := [], harness := (true, "c353e673851586e04379c3425b090c6bb1642b7c97061ff9b1cedb23cd835037"), looks := true }, kinds := [], alts := [], laidByText := true, laidKinds := [.data], laidTests := true, laidLooks := .later }
def FoundUptoCardSaid : Prop := Claim7.holds Tryz.pinned (.plain (OpenSpec.upto foundSpec)) foundUptoCard

/-- THE SECOND FORM's CARD OF 'scoutkeep.Paused'. -/
def pausedUptoCard : Claim7 := { stood := { row := pausedUptoRow, standIns := [], harness := (true, "c353e673851586e04379c3425b090c6bb1642b7c97061ff9b1cedb23cd835037"), looks := true }, kinds := [], alts := [], laidByText := true, laidKinds := [.data, .data, .data, .data, .sentinel, .sentinel], laidTests := true, laidLooks := .later }
def PausedUptoCardSaid : Prop := Claim7.holds Tryz.pinned (.plain (OpenSpec.upto pausedSpec)) pausedUptoCard
end Rows
end Go.Proofs.YtlpbelhfpoilpaaGreatDoorR
