import Derived.Test.YtlpbelhfpoilpaaGreatDoorRows
import Derived.SevenTiedAt
set_option linter.all false
set_option maxRecDepth 100000
set_option maxHeartbeats 16000000
namespace Go.Proofs.YtlpbelhfpoilpaaGreatDoor
open Go
theorem card_wf:Rows.fairsRow.wfByText (OpenSpec.ofChange Rows.fairsSpec)=true:=by kernel_rfl
theorem card_main : Tryz.pinned.checked.prog.mainIs = some ((true, "5c9d1aa9c7d0e9cf3f8c02cb53fac6fb2e3b38d5b88d9e0897f0ac3bb80314ce").1, (true, "5c9d1aa9c7d0e9cf3f8c02cb53fac6fb2e3b38d5b88d9e0897f0ac3bb80314ce").2.toList) := by kernel_rfl
theorem card_looks:true=Tryz.pinned.checked.prog.looks []:=by kernel_rfl
theorem card_goes:false=Rows.fairsRow.goesBy Tryz.pinned.checked.prog:=by kernel_rfl
theorem card_named:Tryz.pinned.checked.prog.funcNamed Rows.fairsRow.func=some 3:=by kernel_rfl
theorem card_s0:Tryz.pinned.checked.prog.wantsStandIn 22=false:=by kernel_rfl
theorem card_s1:Tryz.pinned.checked.prog.wantsStandIn 26=false:=by kernel_rfl
theorem card_s2:Tryz.pinned.checked.prog.wantsStandIn 27=false:=by kernel_rfl
end Go.Proofs.YtlpbelhfpoilpaaGreatDoor
