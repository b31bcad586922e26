import Derived.Test.YtjndadibondgbaaGreatDoorRows
import Derived.JoinedOf
import Derived.Test.YtjndadibondgbaaGreatDoorL00
set_option linter.all false
set_option maxRecDepth 100000
set_option maxHeartbeats 16000000
namespace Go.Proofs.YtjndadibondgbaaGreatDoor
open Go.Proofs.Zz
theorem RF:Tryz.pinned.checked.prog.funcNamed Rows.laidRow.func=some 3:=by kernel_rfl
theorem aeS:((Rows.laidRow).wf (OpenSpec.ofChange (Rows.laidSpec)))=true:=by kernel_rfl
theorem aeT:(laidOutB (Tryz.prog))=true:=by kernel_rfl
theorem aeU:(mapsRowed (Tryz.prog))=true:=by kernel_rfl
theorem aeV:((Tryz.f3).params.all ((Tryz.prog).readableRec ·))=true:=by kernel_rfl
theorem aeW:(namedTie (Tryz.prog) (Rows.laidRow).named (Rows.laidSpec).vars)=true:=by kernel_rfl
theorem aeX:(((Rows.laidRow).stops==[]))=true:=by kernel_rfl
theorem aeY:(((Tryz.prog).stops==[]))=true:=by kernel_rfl
theorem aeZ:(((Rows.laidRow).knobs==[]))=true:=by kernel_rfl
theorem ae0:(((Tryz.prog).stopKnobs==[]))=true:=by kernel_rfl
theorem ae1:(((Rows.laidRow).inPlace==(Tryz.prog).inPlace 3))=true:=by kernel_rfl
theorem abd:(((Rows.laidRow).unfollowed==(Tryz.prog).unfollowed 3))=true:=by kernel_rfl
theorem abe:(((Rows.laidRow).recurses==(Tryz.prog).recurses 3))=true:=by kernel_rfl
theorem abf:(((Rows.laidRow).named==(Tryz.prog).varsNamed 3))=true:=by kernel_rfl
theorem abg:(((Rows.laidRow).maps==((Tryz.f3).params.toList++(Rows.laidSpec).plain.varTypes (Tryz.prog)).any ((Tryz.prog).mapsRec ·)))=true:=by kernel_rfl
theorem abh:(((Rows.laidRow).ifaces==((Tryz.f3).params.toList++(Rows.laidSpec).plain.varTypes (Tryz.prog)).any ((Tryz.prog).ifacesRec ·)))=true:=by kernel_rfl
theorem abj:(((Rows.laidRow).mapsOut==(Tryz.prog).mapsAmong (Tryz.f3).resultTypes.toList))=true:=by kernel_rfl
theorem abk:(((Rows.laidRow).loops==((Tryz.f3).params.toList++(Rows.laidSpec).plain.varTypes (Tryz.prog)).any ((Tryz.prog).loopsFrom ·)))=true:=by kernel_rfl
theorem abl:(((Rows.laidRow).wideKeys==((Tryz.f3).params.toList++(Rows.laidSpec).plain.varTypes (Tryz.prog)++(Tryz.f3).resultTypes.toList).any ((Tryz.prog).wideKeysFrom ·)))=true:=by kernel_rfl
theorem abm:((Rows.laidSpec).vars.all ((Tryz.prog).varReadable ·))=true:=by kernel_rfl
theorem abn:((Tryz.f3).resultTypes.all (fun t=>(Tryz.prog).readableRec t&&decide (t<(Tryz.prog).types.size)))=true:=by kernel_rfl
theorem abo:(((Rows.laidRow).ifacesOut==(Tryz.f3).resultTypes.toList.any ((Tryz.prog).ifacesRec ·)))=true:=by kernel_rfl
theorem abp:(((Rows.laidRow).loopsOut==(Tryz.f3).resultTypes.toList.any ((Tryz.prog).loopsFrom ·)))=true:=by kernel_rfl
theorem abq:(((Rows.laidRow).plainKeys==(Tryz.prog).plainKeys))=true:=by kernel_rfl
theorem abr:((Rows.laidRow).shortTexts.isNone)=true:=by kernel_rfl
theorem abt:((Tryz.prog).stopsHeard)=true:=by kernel_rfl
theorem abu:((Tryz.prog).mayEnter)=true:=by kernel_rfl
theorem abv:(((Rows.laidRow).lifted==(Tryz.prog).liftsFinal))=true:=by kernel_rfl
theorem abw:(((Tryz.prog).make==some (Rows.laidRow).make))=true:=by kernel_rfl
theorem abx:(((Rows.laidRow).pinned==(Rows.laidRow).pinnedBy))=true:=by kernel_rfl
theorem aby:(((Rows.laidRow).veiled==((Tryz.f3).params.toList++(Rows.laidSpec).plain.varTypes (Tryz.prog)++(Tryz.f3).resultTypes.toList).any ((Tryz.prog).veiledRec ·)))=true:=by kernel_rfl
theorem abz:((Rows.laidRow).veiledFits (Tryz.prog) (Tryz.f3).params.toList ((Tryz.f3).params.toList++(Rows.laidSpec).plain.varTypes (Tryz.prog)++(Tryz.f3).resultTypes.toList))=true:=by kernel_rfl
