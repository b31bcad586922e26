import Derived.Test.YtibkmjbegbjgcaaGreatDoorRows
import Derived.SevenTiedAt
import Derived.Test.YtibkmjbegbjgcaaGreatDoorS00
set_option linter.all false
set_option maxRecDepth 100000
set_option maxHeartbeats 0
namespace Go.Proofs.YtibkmjbegbjgcaaGreatDoor
open Go Go.Proofs.Zz
theorem adh:Rows.cheaperRow.wfByText (OpenSpec.ofChange Rows.cheaperSpec)=true:=by kernel_rfl
theorem UH : Tryz.pinned.checked.prog.mainIs = some ((true, "0f8c6cdbe57c6017b2707d9e619bb81ca1e7ebbb356a96a1be3a2ea7bcaf1587").1, (true, "0f8c6cdbe57c6017b2707d9e619bb81ca1e7ebbb356a96a1be3a2ea7bcaf1587").2.toList) := by kernel_rfl
theorem OW:false=Tryz.pinned.checked.prog.looks []:=by kernel_rfl
theorem UI:false=Rows.cheaperRow.goesBy Tryz.pinned.checked.prog:=by kernel_rfl
theorem OX:Tryz.pinned.checked.prog.funcNamed Rows.cheaperRow.func=some 3:=by kernel_rfl
theorem PQ:Tryz.pinned.checked.prog.wantsStandIn 22=false:=by kernel_rfl
theorem GH:Tryz.pinned.checked.prog.wantsStandIn 3=false:=by kernel_rfl
