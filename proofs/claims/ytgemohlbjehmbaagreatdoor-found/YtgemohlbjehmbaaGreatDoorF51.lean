import Derived.Test.YtgemohlbjehmbaaGreatDoorRows
import Derived.SevenTiedAt
import Derived.Test.YtgemohlbjehmbaaGreatDoorF00
set_option linter.all false
set_option maxRecDepth 100000
set_option maxHeartbeats 16000000
namespace Go.Proofs.YtgemohlbjehmbaaGreatDoor
open Go Go.Proofs.Zz
theorem ahO:Rows.foundRow.wfByText (OpenSpec.ofChange Rows.foundSpec)=true:=by kernel_rfl
theorem aaP : Tryz.pinned.checked.prog.mainIs = some ((true, "ae9c79945fc6b46c4937ea3f0fa8c702b160decded009cbf2d5fb701b496046b").1, (true, "ae9c79945fc6b46c4937ea3f0fa8c702b160decded009cbf2d5fb701b496046b").2.toList) := by kernel_rfl
theorem Uv:false=Tryz.pinned.checked.prog.looks []:=by kernel_rfl
theorem aaQ:false=Rows.foundRow.goesBy Tryz.pinned.checked.prog:=by kernel_rfl
theorem Uw:Tryz.pinned.checked.prog.funcNamed Rows.foundRow.func=some 3:=by kernel_rfl
theorem D9:Tryz.pinned.checked.prog.wantsStandIn 22=false:=by kernel_rfl
theorem ahP:Tryz.pinned.checked.prog.wantsStandIn 3=false:=by kernel_rfl
