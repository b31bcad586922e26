import Derived.Test.YtlpbelhfpoilpabGreatDoorRows
import Derived.SevenTiedAt
set_option linter.all false
set_option maxRecDepth 100000
set_option maxHeartbeats 16000000
namespace Go.Proofs.YtlpbelhfpoilpabGreatDoor
open Go
theorem card_wf:Rows.tickedRow.wfByText (OpenSpec.ofChange Rows.tickedSpec)=true:=by kernel_rfl
theorem card_main : Tryz.pinned.checked.prog.mainIs = some ((true, "31f9851a2c4f6fbafad72a06bfc624634ba5864071a84a00f3c35cd7245c2c3b").1, (true, "31f9851a2c4f6fbafad72a06bfc624634ba5864071a84a00f3c35cd7245c2c3b").2.toList) := by kernel_rfl
theorem card_looks:false=Tryz.pinned.checked.prog.looks []:=by kernel_rfl
theorem card_goes:false=Rows.tickedRow.goesBy Tryz.pinned.checked.prog:=by kernel_rfl
theorem card_named:Tryz.pinned.checked.prog.funcNamed Rows.tickedRow.func=some 3:=by kernel_rfl
theorem card_s0:Tryz.pinned.checked.prog.wantsStandIn 22=false:=by kernel_rfl
theorem card_s1:Tryz.pinned.checked.prog.wantsStandIn 3=false:=by kernel_rfl
end Go.Proofs.YtlpbelhfpoilpabGreatDoor
