import Derived.Test.YtlpbelhfpoilpaaGreatDoorRRows
import Derived.SevenTiedAt
import Derived.Test.YtlpbelhfpoilpaaGreatDoorRE00
set_option linter.all false
set_option maxRecDepth 100000
set_option maxHeartbeats 16000000
namespace Go.Proofs.YtlpbelhfpoilpaaGreatDoorR
open Go Go.Proofs.Zz
theorem aeU:Rows.cheaperRow.wfByText (OpenSpec.ofChange Rows.cheaperSpec)=true:=by kernel_rfl
theorem VX : Tryz.pinned.checked.prog.mainIs = some ((true, "c353e673851586e04379c3425b090c6bb1642b7c97061ff9b1cedb23cd835037").1, (true, "c353e673851586e04379c3425b090c6bb1642b7c97061ff9b1cedb23cd835037").2.toList) := by kernel_rfl
theorem Rw:true=Tryz.pinned.checked.prog.looks []:=by kernel_rfl
theorem VY:false=Rows.cheaperRow.goesBy Tryz.pinned.checked.prog:=by kernel_rfl
theorem Rx:Tryz.pinned.checked.prog.funcNamed Rows.cheaperRow.func=some 7:=by kernel_rfl
theorem SQ:Tryz.pinned.checked.prog.wantsStandIn 23=false:=by kernel_rfl
theorem II:Tryz.pinned.checked.prog.wantsStandIn 3=false:=by kernel_rfl
