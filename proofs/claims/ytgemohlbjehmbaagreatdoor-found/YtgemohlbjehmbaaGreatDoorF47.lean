import Derived.Test.YtgemohlbjehmbaaGreatDoorRows
import Derived.JoinedOf
import Derived.Test.YtgemohlbjehmbaaGreatDoorF00
set_option linter.all false
set_option maxRecDepth 100000
set_option maxHeartbeats 16000000
namespace Go.Proofs.YtgemohlbjehmbaaGreatDoor
open Go.Proofs.Zz
theorem L8:Tryz.pinned.checked.prog.funcNamed Rows.foundRow.func=some 3:=by kernel_rfl
theorem abx:((Rows.foundRow).wf (OpenSpec.ofChange (Rows.foundSpec)))=true:=by kernel_rfl
theorem aby:(laidOutB (Tryz.prog))=true:=by kernel_rfl
theorem abz:(mapsRowed (Tryz.prog))=true:=by kernel_rfl
theorem abA:((Tryz.f3).params.all ((Tryz.prog).readableRec ·))=true:=by kernel_rfl
theorem abB:(namedTie (Tryz.prog) (Rows.foundRow).named (Rows.foundSpec).vars)=true:=by kernel_rfl
theorem abC:(((Rows.foundRow).stops==[]))=true:=by kernel_rfl
theorem abD:(((Tryz.prog).stops==[]))=true:=by kernel_rfl
theorem abE:(((Rows.foundRow).knobs==[]))=true:=by kernel_rfl
theorem abF:(((Tryz.prog).stopKnobs==[]))=true:=by kernel_rfl
theorem abG:(((Rows.foundRow).inPlace==(Tryz.prog).inPlace 3))=true:=by kernel_rfl
theorem Vq:(((Rows.foundRow).unfollowed==(Tryz.prog).unfollowed 3))=true:=by kernel_rfl
theorem Vr:(((Rows.foundRow).recurses==(Tryz.prog).recurses 3))=true:=by kernel_rfl
theorem Vs:(((Rows.foundRow).named==(Tryz.prog).varsNamed 3))=true:=by kernel_rfl
theorem Vt:(((Rows.foundRow).maps==((Tryz.f3).params.toList++(Rows.foundSpec).plain.varTypes (Tryz.prog)).any ((Tryz.prog).mapsRec ·)))=true:=by kernel_rfl
theorem Vu:(((Rows.foundRow).ifaces==((Tryz.f3).params.toList++(Rows.foundSpec).plain.varTypes (Tryz.prog)).any ((Tryz.prog).ifacesRec ·)))=true:=by kernel_rfl
theorem Vv:(((Rows.foundRow).mapsOut==(Tryz.prog).mapsAmong (Tryz.f3).resultTypes.toList))=true:=by kernel_rfl
theorem Vw:(((Rows.foundRow).loops==((Tryz.f3).params.toList++(Rows.foundSpec).plain.varTypes (Tryz.prog)).any ((Tryz.prog).loopsFrom ·)))=true:=by kernel_rfl
theorem Vx:(((Rows.foundRow).wideKeys==((Tryz.f3).params.toList++(Rows.foundSpec).plain.varTypes (Tryz.prog)++(Tryz.f3).resultTypes.toList).any ((Tryz.prog).wideKeysFrom ·)))=true:=by kernel_rfl
theorem Vy:((Rows.foundSpec).vars.all ((Tryz.prog).varReadable ·))=true:=by kernel_rfl
theorem Vz:((Tryz.f3).resultTypes.all (λt=>(Tryz.prog).readableRec t&&decide (t<(Tryz.prog).types.size)))=true:=by kernel_rfl
theorem VA:(((Rows.foundRow).ifacesOut==(Tryz.f3).resultTypes.toList.any ((Tryz.prog).ifacesRec ·)))=true:=by kernel_rfl
theorem VB:(((Rows.foundRow).loopsOut==(Tryz.f3).resultTypes.toList.any ((Tryz.prog).loopsFrom ·)))=true:=by kernel_rfl
theorem VC:(((Rows.foundRow).plainKeys==(Tryz.prog).plainKeys))=true:=by kernel_rfl
theorem VD:((Rows.foundRow).shortTexts.isNone)=true:=by kernel_rfl
theorem VE:((Tryz.prog).stopsHeard)=true:=by kernel_rfl
theorem VF:((Tryz.prog).mayEnter)=true:=by kernel_rfl
theorem VG:(((Rows.foundRow).lifted==(Tryz.prog).liftsFinal))=true:=by kernel_rfl
theorem VH:(((Tryz.prog).make==some (Rows.foundRow).make))=true:=by kernel_rfl
theorem VI:(((Rows.foundRow).pinned==(Rows.foundRow).pinnedBy))=true:=by kernel_rfl
theorem VJ:(((Rows.foundRow).veiled==((Tryz.f3).params.toList++(Rows.foundSpec).plain.varTypes (Tryz.prog)++(Tryz.f3).resultTypes.toList).any ((Tryz.prog).veiledRec ·)))=true:=by kernel_rfl
theorem VK:((Rows.foundRow).veiledFits (Tryz.prog) (Tryz.f3).params.toList ((Tryz.f3).params.toList++(Rows.foundSpec).plain.varTypes (Tryz.prog)++(Tryz.f3).resultTypes.toList))=true:=by kernel_rfl
