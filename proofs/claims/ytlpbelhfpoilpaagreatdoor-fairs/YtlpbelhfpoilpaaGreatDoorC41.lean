import Derived.Test.YtlpbelhfpoilpaaGreatDoorC00
import Derived.Test.YtlpbelhfpoilpaaGreatDoorC40
set_option linter.all false
set_option maxRecDepth 100000
set_option maxHeartbeats 16000000
namespace Go.Proofs.YtlpbelhfpoilpaaGreatDoor
open Go.ChangeShapes Go.WideShapes Go.ChangeAt Go.RowKit
theorem and_t {a b:Bool} (ha:a=true) (hb:b=true):(a&&b)=true:=by rw[ha,hb]; rfl
theorem fairs_closed:joinedFacts Tryz.prog 3 Tryz.f3 Rows.fairsSpec Rows.fairsRow=true:=by
 unfold joinedFacts;refine and_t ?_ fairs_c31;refine and_t ?_ fairs_c30;refine and_t ?_ fairs_c29;refine and_t ?_ (by kernel_rfl);refine and_t ?_ fairs_c27;refine and_t ?_ fairs_c26;refine and_t ?_ fairs_c25;refine and_t ?_ fairs_c24;refine and_t ?_ fairs_c23;refine and_t ?_ fairs_c22;refine and_t ?_ fairs_c21;refine and_t ?_ fairs_c20;refine and_t ?_ fairs_c19;refine and_t ?_ fairs_c18;refine and_t ?_ fairs_c17;refine and_t ?_ fairs_c16;refine and_t ?_ fairs_c15;refine and_t ?_ fairs_c14;refine and_t ?_ fairs_c13;refine and_t ?_ fairs_c12;refine and_t ?_ fairs_c11;refine and_t ?_ fairs_c10;refine and_t ?_ fairs_c9;refine and_t ?_ fairs_c8;refine and_t ?_ fairs_c7;refine and_t ?_ fairs_c6;refine and_t ?_ fairs_c5;refine and_t ?_ fairs_c4;refine and_t ?_ fairs_c3;refine and_t ?_ fairs_c2;refine and_t ?_ fairs_c1;exact fairs_c0
theorem fairs_inst:Tryz.f3.isInstance Tryz.prog Rows.fairsRow.origin Rows.fairsRow.targs:=of_decide_eq_true (by kernel_rfl)
theorem fairs_wrap:Tryz.f3.isWrapper Tryz.prog Rows.fairsRow.wrapper Rows.fairsRow.mainSum:=by unfold Func.isWrapper; first | (rw[if_pos (by decide +kernel)]; kernel_rfl) | (rw[if_neg (by decide +kernel)]; exact⟨rfl,rfl⟩)
theorem fairs_over:Rows.FairsSaid:=
 OpenClaim.holds_of_wide 3 Tryz.f3 rfl rfl rfl rfl rfl rfl rfl ⟨rfl,rfl,rfl,rfl,rfl⟩ rfl rfl rfl rfl rfl fairs_named Tryz.func3 fairs_closed
  fairs_inst fairs_wrap (fun os started H enc _=>fairs_lifted os started H enc)
end Go.Proofs.YtlpbelhfpoilpaaGreatDoor
