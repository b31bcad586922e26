import Derived.Test.YtbcgekghfgcakaaGreatDoorRows
import Derived.JoinedOf
import Derived.Test.YtbcgekghfgcakaaGreatDoorF00
set_option linter.all false
set_option maxRecDepth 100000
set_option maxHeartbeats 16000000
namespace Go.Proofs.YtbcgekghfgcakaaGreatDoor
open Go.Proofs.Zz
theorem DZ:Tryz.pinned.checked.prog.funcNamed Rows.pausedRow.func=some 3:=by kernel_rfl
theorem O0:((Rows.pausedRow).wf (OpenSpec.ofChange (Rows.pausedSpec)))=true:=by kernel_rfl
theorem O3:(laidOutB (Tryz.prog))=true:=by kernel_rfl
theorem O4:(mapsRowed (Tryz.prog))=true:=by kernel_rfl
theorem O5:((Tryz.f3).params.all ((Tryz.prog).readableRec ·))=true:=by kernel_rfl
theorem O6:(namedTie (Tryz.prog) (Rows.pausedRow).named (Rows.pausedSpec).vars)=true:=by kernel_rfl
theorem O7:(((Rows.pausedRow).stops==[]))=true:=by kernel_rfl
theorem O8:(((Tryz.prog).stops==[]))=true:=by kernel_rfl
theorem O9:(((Rows.pausedRow).knobs==[]))=true:=by kernel_rfl
theorem Pb:(((Tryz.prog).stopKnobs==[]))=true:=by kernel_rfl
theorem Pd:(((Rows.pausedRow).inPlace==(Tryz.prog).inPlace 3))=true:=by kernel_rfl
theorem Kr:(((Rows.pausedRow).unfollowed==(Tryz.prog).unfollowed 3))=true:=by kernel_rfl
theorem Kt:(((Rows.pausedRow).recurses==(Tryz.prog).recurses 3))=true:=by kernel_rfl
theorem Ku:(((Rows.pausedRow).named==(Tryz.prog).varsNamed 3))=true:=by kernel_rfl
theorem Kv:(((Rows.pausedRow).maps==((Tryz.f3).params.toList++(Rows.pausedSpec).plain.varTypes (Tryz.prog)).any ((Tryz.prog).mapsRec ·)))=true:=by kernel_rfl
theorem Kw:(((Rows.pausedRow).ifaces==((Tryz.f3).params.toList++(Rows.pausedSpec).plain.varTypes (Tryz.prog)).any ((Tryz.prog).ifacesRec ·)))=true:=by kernel_rfl
theorem Ky:(((Rows.pausedRow).mapsOut==(Tryz.prog).mapsAmong (Tryz.f3).resultTypes.toList))=true:=by kernel_rfl
theorem Kz:(((Rows.pausedRow).loops==((Tryz.f3).params.toList++(Rows.pausedSpec).plain.varTypes (Tryz.prog)).any ((Tryz.prog).loopsFrom ·)))=true:=by kernel_rfl
theorem KC:(((Rows.pausedRow).wideKeys==((Tryz.f3).params.toList++(Rows.pausedSpec).plain.varTypes (Tryz.prog)++(Tryz.f3).resultTypes.toList).any ((Tryz.prog).wideKeysFrom ·)))=true:=by kernel_rfl
theorem KD:((Rows.pausedSpec).vars.all ((Tryz.prog).varReadable ·))=true:=by kernel_rfl
theorem KE:((Tryz.f3).resultTypes.all (fun t=>(Tryz.prog).readableRec t&&decide (t<(Tryz.prog).types.size)))=true:=by kernel_rfl
theorem KF:(((Rows.pausedRow).ifacesOut==(Tryz.f3).resultTypes.toList.any ((Tryz.prog).ifacesRec ·)))=true:=by kernel_rfl
theorem KG:(((Rows.pausedRow).loopsOut==(Tryz.f3).resultTypes.toList.any ((Tryz.prog).loopsFrom ·)))=true:=by kernel_rfl
theorem KH:(((Rows.pausedRow).plainKeys==(Tryz.prog).plainKeys))=true:=by kernel_rfl
theorem KI:((Rows.pausedRow).shortTexts.isNone)=true:=by kernel_rfl
theorem KJ:((Tryz.prog).stopsHeard)=true:=by kernel_rfl
theorem KL:((Tryz.prog).mayEnter)=true:=by kernel_rfl
theorem KM:(((Rows.pausedRow).lifted==(Tryz.prog).liftsFinal))=true:=by kernel_rfl
theorem KO:(((Tryz.prog).make==some (Rows.pausedRow).make))=true:=by kernel_rfl
theorem KQ:(((Rows.pausedRow).pinned==(Rows.pausedRow).pinnedBy))=true:=by kernel_rfl
theorem KR:(((Rows.pausedRow).veiled==((Tryz.f3).params.toList++(Rows.pausedSpec).plain.varTypes (Tryz.prog)++(Tryz.f3).resultTypes.toList).any ((Tryz.prog).veiledRec ·)))=true:=by kernel_rfl
theorem KS:((Rows.pausedRow).veiledFits (Tryz.prog) (Tryz.f3).params.toList ((Tryz.f3).params.toList++(Rows.pausedSpec).plain.varTypes (Tryz.prog)++(Tryz.f3).resultTypes.toList))=true:=by kernel_rfl
