import Derived.Test.YtlpbelhfpoilpaaGreatDoorRRows
import Derived.JoinedOf
import Derived.Test.YtlpbelhfpoilpaaGreatDoorRE00
set_option linter.all false
set_option maxRecDepth 100000
set_option maxHeartbeats 16000000
namespace Go.Proofs.YtlpbelhfpoilpaaGreatDoorR
open Go.Proofs.Zz
theorem DT:Tryz.pinned.checked.prog.funcNamed Rows.cheaperRow.func=some 7:=by kernel_rfl
theorem Ng:((Rows.cheaperRow).wf (OpenSpec.ofChange (Rows.cheaperSpec)))=true:=by kernel_rfl
theorem Nh:(laidOutB (Tryz.prog))=true:=by kernel_rfl
theorem Ni:(mapsRowed (Tryz.prog))=true:=by kernel_rfl
theorem Nk:((Tryz.f7).params.all ((Tryz.prog).readableRec ·))=true:=by kernel_rfl
theorem Nl:(namedTie (Tryz.prog) (Rows.cheaperRow).named (Rows.cheaperSpec).vars)=true:=by kernel_rfl
theorem Nn:(((Rows.cheaperRow).stops==[]))=true:=by kernel_rfl
theorem Np:(((Tryz.prog).stops==[]))=true:=by kernel_rfl
theorem Nq:(((Rows.cheaperRow).knobs==[]))=true:=by kernel_rfl
theorem Nr:(((Tryz.prog).stopKnobs==[]))=true:=by kernel_rfl
theorem Ns:(((Rows.cheaperRow).inPlace==(Tryz.prog).inPlace 7))=true:=by kernel_rfl
theorem I9:(((Rows.cheaperRow).unfollowed==(Tryz.prog).unfollowed 7))=true:=by kernel_rfl
theorem Jj:(((Rows.cheaperRow).recurses==(Tryz.prog).recurses 7))=true:=by kernel_rfl
theorem Jk:(((Rows.cheaperRow).named==(Tryz.prog).varsNamed 7))=true:=by kernel_rfl
theorem Jl:(((Rows.cheaperRow).maps==((Tryz.f7).params.toList++(Rows.cheaperSpec).plain.varTypes (Tryz.prog)).any ((Tryz.prog).mapsRec ·)))=true:=by kernel_rfl
theorem Jm:(((Rows.cheaperRow).ifaces==((Tryz.f7).params.toList++(Rows.cheaperSpec).plain.varTypes (Tryz.prog)).any ((Tryz.prog).ifacesRec ·)))=true:=by kernel_rfl
theorem Jn:(((Rows.cheaperRow).mapsOut==(Tryz.prog).mapsAmong (Tryz.f7).resultTypes.toList))=true:=by kernel_rfl
theorem Jo:(((Rows.cheaperRow).loops==((Tryz.f7).params.toList++(Rows.cheaperSpec).plain.varTypes (Tryz.prog)).any ((Tryz.prog).loopsFrom ·)))=true:=by kernel_rfl
theorem Jp:(((Rows.cheaperRow).wideKeys==((Tryz.f7).params.toList++(Rows.cheaperSpec).plain.varTypes (Tryz.prog)++(Tryz.f7).resultTypes.toList).any ((Tryz.prog).wideKeysFrom ·)))=true:=by kernel_rfl
theorem Jq:((Rows.cheaperSpec).vars.all ((Tryz.prog).varReadable ·))=true:=by kernel_rfl
theorem Jr:((Tryz.f7).resultTypes.all (fun t=>(Tryz.prog).readableRec t&&decide (t<(Tryz.prog).types.size)))=true:=by kernel_rfl
theorem Js:(((Rows.cheaperRow).ifacesOut==(Tryz.f7).resultTypes.toList.any ((Tryz.prog).ifacesRec ·)))=true:=by kernel_rfl
theorem Jt:(((Rows.cheaperRow).loopsOut==(Tryz.f7).resultTypes.toList.any ((Tryz.prog).loopsFrom ·)))=true:=by kernel_rfl
theorem Ju:(((Rows.cheaperRow).plainKeys==(Tryz.prog).plainKeys))=true:=by kernel_rfl
theorem Jv:((Rows.cheaperRow).shortTexts.isNone)=true:=by kernel_rfl
theorem Jw:((Tryz.prog).stopsHeard)=true:=by kernel_rfl
theorem Jy:((Tryz.prog).mayEnter)=true:=by kernel_rfl
theorem Jz:(((Rows.cheaperRow).lifted==(Tryz.prog).liftsFinal))=true:=by kernel_rfl
theorem JA:(((Tryz.prog).make==some (Rows.cheaperRow).make))=true:=by kernel_rfl
theorem JB:(((Rows.cheaperRow).pinned==(Rows.cheaperRow).pinnedBy))=true:=by kernel_rfl
theorem JC:(((Rows.cheaperRow).veiled==((Tryz.f7).params.toList++(Rows.cheaperSpec).plain.varTypes (Tryz.prog)++(Tryz.f7).resultTypes.toList).any ((Tryz.prog).veiledRec ·)))=true:=by kernel_rfl
theorem JD:((Rows.cheaperRow).veiledFits (Tryz.prog) (Tryz.f7).params.toList ((Tryz.f7).params.toList++(Rows.cheaperSpec).plain.varTypes (Tryz.prog)++(Tryz.f7).resultTypes.toList))=true:=by kernel_rfl
