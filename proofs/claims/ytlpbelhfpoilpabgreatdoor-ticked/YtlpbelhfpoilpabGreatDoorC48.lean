import Derived.Test.YtlpbelhfpoilpabGreatDoorC00
import Derived.Test.YtlpbelhfpoilpabGreatDoorC47
set_option linter.all false
set_option maxRecDepth 100000
set_option maxHeartbeats 16000000
namespace Go.Proofs.YtlpbelhfpoilpabGreatDoor
open Go.ChangeShapes Go.WideShapes Go.ChangeAt Go.RowKit
theorem and_t {a b:Bool} (ha:a=true) (hb:b=true):(a&&b)=true:=by rw[ha,hb]; rfl
theorem ticked_closed:joinedFacts Tryz.prog 3 Tryz.f3 Rows.tickedSpec Rows.tickedRow=true:=by
 unfold joinedFacts;refine and_t ?_ ticked_c31;refine and_t ?_ ticked_c30;refine and_t ?_ ticked_c29;refine and_t ?_ (by kernel_rfl);refine and_t ?_ ticked_c27;refine and_t ?_ ticked_c26;refine and_t ?_ ticked_c25;refine and_t ?_ ticked_c24;refine and_t ?_ ticked_c23;refine and_t ?_ ticked_c22;refine and_t ?_ ticked_c21;refine and_t ?_ ticked_c20;refine and_t ?_ ticked_c19;refine and_t ?_ ticked_c18;refine and_t ?_ ticked_c17;refine and_t ?_ ticked_c16;refine and_t ?_ ticked_c15;refine and_t ?_ ticked_c14;refine and_t ?_ ticked_c13;refine and_t ?_ ticked_c12;refine and_t ?_ ticked_c11;refine and_t ?_ ticked_c10;refine and_t ?_ ticked_c9;refine and_t ?_ ticked_c8;refine and_t ?_ ticked_c7;refine and_t ?_ ticked_c6;refine and_t ?_ ticked_c5;refine and_t ?_ ticked_c4;refine and_t ?_ ticked_c3;refine and_t ?_ ticked_c2;refine and_t ?_ ticked_c1;exact ticked_c0
theorem ticked_inst:Tryz.f3.isInstance Tryz.prog Rows.tickedRow.origin Rows.tickedRow.targs:=of_decide_eq_true (by kernel_rfl)
theorem ticked_wrap:Tryz.f3.isWrapper Tryz.prog Rows.tickedRow.wrapper Rows.tickedRow.mainSum:=by unfold Func.isWrapper; first | (rw[if_pos (by decide +kernel)]; kernel_rfl) | (rw[if_neg (by decide +kernel)]; exact⟨rfl,rfl⟩)
theorem ticked_over:Rows.TickedSaid:=
 OpenClaim.holds_of_wide 3 Tryz.f3 rfl rfl rfl rfl rfl rfl rfl ⟨rfl,rfl,rfl,rfl,rfl⟩ rfl rfl rfl rfl rfl ticked_named Tryz.func3 ticked_closed
  ticked_inst ticked_wrap (fun os started H enc _=>ticked_lifted os started H enc)
end Go.Proofs.YtlpbelhfpoilpabGreatDoor
