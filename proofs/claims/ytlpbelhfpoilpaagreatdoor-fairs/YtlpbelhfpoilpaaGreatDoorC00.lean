import Derived.Test.YtlpbelhfpoilpaaGreatDoorRows
import Derived.JoinedOf
set_option linter.all false
set_option maxRecDepth 100000
set_option maxHeartbeats 16000000
namespace Go.Proofs.YtlpbelhfpoilpaaGreatDoor
theorem fairs_named:Tryz.pinned.checked.prog.funcNamed Rows.fairsRow.func=some 3:=by kernel_rfl
theorem fairs_c0:((Rows.fairsRow).wf (OpenSpec.ofChange (Rows.fairsSpec)))=true:=by kernel_rfl
theorem fairs_c1:(laidOutB (Tryz.prog))=true:=by kernel_rfl
theorem fairs_c2:(mapsRowed (Tryz.prog))=true:=by kernel_rfl
theorem fairs_c3:((Tryz.f3).params.all ((Tryz.prog).readableRec ·))=true:=by kernel_rfl
theorem fairs_c4:(namedTie (Tryz.prog) (Rows.fairsRow).named (Rows.fairsSpec).vars)=true:=by kernel_rfl
theorem fairs_c5:(((Rows.fairsRow).stops==[]))=true:=by kernel_rfl
theorem fairs_c6:(((Tryz.prog).stops==[]))=true:=by kernel_rfl
theorem fairs_c7:(((Rows.fairsRow).knobs==[]))=true:=by kernel_rfl
theorem fairs_c8:(((Tryz.prog).stopKnobs==[]))=true:=by kernel_rfl
theorem fairs_c9:(((Rows.fairsRow).inPlace==(Tryz.prog).inPlace 3))=true:=by kernel_rfl
theorem fairs_c10:(((Rows.fairsRow).unfollowed==(Tryz.prog).unfollowed 3))=true:=by kernel_rfl
theorem fairs_c11:(((Rows.fairsRow).recurses==(Tryz.prog).recurses 3))=true:=by kernel_rfl
theorem fairs_c12:(((Rows.fairsRow).named==(Tryz.prog).varsNamed 3))=true:=by kernel_rfl
theorem fairs_c13:(((Rows.fairsRow).maps==((Tryz.f3).params.toList++(Rows.fairsSpec).plain.varTypes (Tryz.prog)).any ((Tryz.prog).mapsRec ·)))=true:=by kernel_rfl
theorem fairs_c14:(((Rows.fairsRow).ifaces==((Tryz.f3).params.toList++(Rows.fairsSpec).plain.varTypes (Tryz.prog)).any ((Tryz.prog).ifacesRec ·)))=true:=by kernel_rfl
theorem fairs_c15:(((Rows.fairsRow).mapsOut==(Tryz.prog).mapsAmong (Tryz.f3).resultTypes.toList))=true:=by kernel_rfl
theorem fairs_c16:(((Rows.fairsRow).loops==((Tryz.f3).params.toList++(Rows.fairsSpec).plain.varTypes (Tryz.prog)).any ((Tryz.prog).loopsFrom ·)))=true:=by kernel_rfl
theorem fairs_c17:(((Rows.fairsRow).wideKeys==((Tryz.f3).params.toList++(Rows.fairsSpec).plain.varTypes (Tryz.prog)++(Tryz.f3).resultTypes.toList).any ((Tryz.prog).wideKeysFrom ·)))=true:=by kernel_rfl
theorem fairs_c18:((Rows.fairsSpec).vars.all ((Tryz.prog).varReadable ·))=true:=by kernel_rfl
theorem fairs_c19:((Tryz.f3).resultTypes.all (fun t=>(Tryz.prog).readableRec t&&decide (t<(Tryz.prog).types.size)))=true:=by kernel_rfl
theorem fairs_c20:(((Rows.fairsRow).ifacesOut==(Tryz.f3).resultTypes.toList.any ((Tryz.prog).ifacesRec ·)))=true:=by kernel_rfl
theorem fairs_c21:(((Rows.fairsRow).loopsOut==(Tryz.f3).resultTypes.toList.any ((Tryz.prog).loopsFrom ·)))=true:=by kernel_rfl
theorem fairs_c22:(((Rows.fairsRow).plainKeys==(Tryz.prog).plainKeys))=true:=by kernel_rfl
theorem fairs_c23:((Rows.fairsRow).shortTexts.isNone)=true:=by kernel_rfl
theorem fairs_c24:((Tryz.prog).stopsHeard)=true:=by kernel_rfl
theorem fairs_c25:((Tryz.prog).mayEnter)=true:=by kernel_rfl
theorem fairs_c26:(((Rows.fairsRow).lifted==(Tryz.prog).liftsFinal))=true:=by kernel_rfl
theorem fairs_c27:(((Tryz.prog).make==some (Rows.fairsRow).make))=true:=by kernel_rfl
theorem fairs_c29:(((Rows.fairsRow).pinned==(Rows.fairsRow).pinnedBy))=true:=by kernel_rfl
theorem fairs_c30:(((Rows.fairsRow).veiled==((Tryz.f3).params.toList++(Rows.fairsSpec).plain.varTypes (Tryz.prog)++(Tryz.f3).resultTypes.toList).any ((Tryz.prog).veiledRec ·)))=true:=by kernel_rfl
theorem fairs_c31:((Rows.fairsRow).veiledFits (Tryz.prog) (Tryz.f3).params.toList ((Tryz.f3).params.toList++(Rows.fairsSpec).plain.varTypes (Tryz.prog)++(Tryz.f3).resultTypes.toList))=true:=by kernel_rfl
end Go.Proofs.YtlpbelhfpoilpaaGreatDoor
