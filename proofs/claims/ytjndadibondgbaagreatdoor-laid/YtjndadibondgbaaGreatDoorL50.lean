import Derived.Test.YtjndadibondgbaaGreatDoorRows
import Derived.SevenTiedAt
import Derived.Test.YtjndadibondgbaaGreatDoorL00
set_option linter.all false
set_option maxRecDepth 100000
set_option maxHeartbeats 16000000
namespace Go.Proofs.YtjndadibondgbaaGreatDoor
open Go Go.Proofs.Zz
theorem ahn:Rows.laidRow.wfByText (OpenSpec.ofChange Rows.laidSpec)=true:=by kernel_rfl
theorem aaO : Tryz.pinned.checked.prog.mainIs = some ((true, "a7dcd1f91253e9dfe7abfe9f60107b077e1b41fa677ec380edf4210064b5e384").1, (true, "a7dcd1f91253e9dfe7abfe9f60107b077e1b41fa677ec380edf4210064b5e384").2.toList) := by kernel_rfl
theorem UO:false=Tryz.pinned.checked.prog.looks []:=by kernel_rfl
theorem aaP:false=Rows.laidRow.goesBy Tryz.pinned.checked.prog:=by kernel_rfl
theorem UQ:Tryz.pinned.checked.prog.funcNamed Rows.laidRow.func=some 3:=by kernel_rfl
theorem VF:Tryz.pinned.checked.prog.wantsStandIn 22=false:=by kernel_rfl
theorem aho:Tryz.pinned.checked.prog.wantsStandIn 3=false:=by kernel_rfl
