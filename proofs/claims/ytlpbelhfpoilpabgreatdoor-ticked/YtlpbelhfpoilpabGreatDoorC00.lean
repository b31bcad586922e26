import Derived.Test.YtlpbelhfpoilpabGreatDoorRows
import Derived.JoinedOf
set_option linter.all false
set_option maxRecDepth 100000
set_option maxHeartbeats 16000000
namespace Go.Proofs.YtlpbelhfpoilpabGreatDoor
theorem ticked_named:Tryz.pinned.checked.prog.funcNamed Rows.tickedRow.func=some 3:=by kernel_rfl
theorem ticked_c0:((Rows.tickedRow).wf (OpenSpec.ofChange (Rows.tickedSpec)))=true:=by kernel_rfl
theorem ticked_c1:(laidOutB (Tryz.prog))=true:=by kernel_rfl
theorem ticked_c2:(mapsRowed (Tryz.prog))=true:=by kernel_rfl
theorem ticked_c3:((Tryz.f3).params.all ((Tryz.prog).readableRec ·))=true:=by kernel_rfl
theorem ticked_c4:(namedTie (Tryz.prog) (Rows.tickedRow).named (Rows.tickedSpec).vars)=true:=by kernel_rfl
theorem ticked_c5:(((Rows.tickedRow).stops==[]))=true:=by kernel_rfl
theorem ticked_c6:(((Tryz.prog).stops==[]))=true:=by kernel_rfl
theorem ticked_c7:(((Rows.tickedRow).knobs==[]))=true:=by kernel_rfl
theorem ticked_c8:(((Tryz.prog).stopKnobs==[]))=true:=by kernel_rfl
theorem ticked_c9:(((Rows.tickedRow).inPlace==(Tryz.prog).inPlace 3))=true:=by kernel_rfl
theorem ticked_c10:(((Rows.tickedRow).unfollowed==(Tryz.prog).unfollowed 3))=true:=by kernel_rfl
theorem ticked_c11:(((Rows.tickedRow).recurses==(Tryz.prog).recurses 3))=true:=by kernel_rfl
theorem ticked_c12:(((Rows.tickedRow).named==(Tryz.prog).varsNamed 3))=true:=by kernel_rfl
theorem ticked_c13:(((Rows.tickedRow).maps==((Tryz.f3).params.toList++(Rows.tickedSpec).plain.varTypes (Tryz.prog)).any ((Tryz.prog).mapsRec ·)))=true:=by kernel_rfl
theorem ticked_c14:(((Rows.tickedRow).ifaces==((Tryz.f3).params.toList++(Rows.tickedSpec).plain.varTypes (Tryz.prog)).any ((Tryz.prog).ifacesRec ·)))=true:=by kernel_rfl
theorem ticked_c15:(((Rows.tickedRow).mapsOut==(Tryz.prog).mapsAmong (Tryz.f3).resultTypes.toList))=true:=by kernel_rfl
theorem ticked_c16:(((Rows.tickedRow).loops==((Tryz.f3).params.toList++(Rows.tickedSpec).plain.varTypes (Tryz.prog)).any ((Tryz.prog).loopsFrom ·)))=true:=by kernel_rfl
theorem ticked_c17:(((Rows.tickedRow).wideKeys==((Tryz.f3).params.toList++(Rows.tickedSpec).plain.varTypes (Tryz.prog)++(Tryz.f3).resultTypes.toList).any ((Tryz.prog).wideKeysFrom ·)))=true:=by kernel_rfl
theorem ticked_c18:((Rows.tickedSpec).vars.all ((Tryz.prog).varReadable ·))=true:=by kernel_rfl
theorem ticked_c19:((Tryz.f3).resultTypes.all (fun t=>(Tryz.prog).readableRec t&&decide (t<(Tryz.prog).types.size)))=true:=by kernel_rfl
theorem ticked_c20:(((Rows.tickedRow).ifacesOut==(Tryz.f3).resultTypes.toList.any ((Tryz.prog).ifacesRec ·)))=true:=by kernel_rfl
theorem ticked_c21:(((Rows.tickedRow).loopsOut==(Tryz.f3).resultTypes.toList.any ((Tryz.prog).loopsFrom ·)))=true:=by kernel_rfl
theorem ticked_c22:(((Rows.tickedRow).plainKeys==(Tryz.prog).plainKeys))=true:=by kernel_rfl
theorem ticked_c23:((Rows.tickedRow).shortTexts.isNone)=true:=by kernel_rfl
theorem ticked_c24:((Tryz.prog).stopsHeard)=true:=by kernel_rfl
theorem ticked_c25:((Tryz.prog).mayEnter)=true:=by kernel_rfl
theorem ticked_c26:(((Rows.tickedRow).lifted==(Tryz.prog).liftsFinal))=true:=by kernel_rfl
theorem ticked_c27:(((Tryz.prog).make==some (Rows.tickedRow).make))=true:=by kernel_rfl
theorem ticked_c29:(((Rows.tickedRow).pinned==(Rows.tickedRow).pinnedBy))=true:=by kernel_rfl
theorem ticked_c30:(((Rows.tickedRow).veiled==((Tryz.f3).params.toList++(Rows.tickedSpec).plain.varTypes (Tryz.prog)++(Tryz.f3).resultTypes.toList).any ((Tryz.prog).veiledRec ·)))=true:=by kernel_rfl
theorem ticked_c31:((Rows.tickedRow).veiledFits (Tryz.prog) (Tryz.f3).params.toList ((Tryz.f3).params.toList++(Rows.tickedSpec).plain.varTypes (Tryz.prog)++(Tryz.f3).resultTypes.toList))=true:=by kernel_rfl
end Go.Proofs.YtlpbelhfpoilpabGreatDoor
