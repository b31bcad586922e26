import Derived.Test.YtbcgekghfgcakaaGreatDoorRows
import Derived.SevenTiedAt
import Derived.Test.YtbcgekghfgcakaaGreatDoorF00
set_option linter.all false
set_option maxRecDepth 100000
set_option maxHeartbeats 16000000
namespace Go.Proofs.YtbcgekghfgcakaaGreatDoor
open Go Go.Proofs.Zz
theorem acu:Rows.pausedRow.wfByText (OpenSpec.ofChange Rows.pausedSpec)=true:=by kernel_rfl
theorem TM : Tryz.pinned.checked.prog.mainIs = some ((true, "85bf3d274abfefb539058e197f75160dbded298537893834e5b3b05758bbc779").1, (true, "85bf3d274abfefb539058e197f75160dbded298537893834e5b3b05758bbc779").2.toList) := by kernel_rfl
theorem NV:true=Tryz.pinned.checked.prog.looks []:=by kernel_rfl
theorem TN:false=Rows.pausedRow.goesBy Tryz.pinned.checked.prog:=by kernel_rfl
theorem NW:Tryz.pinned.checked.prog.funcNamed Rows.pausedRow.func=some 3:=by kernel_rfl
theorem F8:Tryz.pinned.checked.prog.wantsStandIn 22=false:=by kernel_rfl
theorem F9:Tryz.pinned.checked.prog.wantsStandIn 3=false:=by kernel_rfl
