import Derived.Test.YtbcgekghfgcakaaGreatDoorF44
import Derived.Test.YtbcgekghfgcakaaGreatDoorF46
set_option linter.all false
set_option maxRecDepth 100000
set_option maxHeartbeats 16000000
namespace Go.Proofs.YtbcgekghfgcakaaGreatDoor
open Go.ChangeShapes Go.WideShapes Go.ChangeAt Go.RowKit Go.Proofs.Zz
theorem eO {a b:Bool} (ha:a=true) (hb:b=true):(a&&b)=true:=by rw[ha,hb]; rfl
theorem CO:joinedFacts Tryz.prog 3 Tryz.f3 Rows.pausedSpec Rows.pausedRow=true:=by
 unfold joinedFacts;refine eO ?_ KS;refine eO ?_ KR;refine eO ?_ KQ;refine eO ?_ (by kernel_rfl);refine eO ?_ KO;refine eO ?_ KM;refine eO ?_ KL;refine eO ?_ KJ;refine eO ?_ KI;refine eO ?_ KH;refine eO ?_ KG;refine eO ?_ KF;refine eO ?_ KE;refine eO ?_ KD;refine eO ?_ KC;refine eO ?_ Kz;refine eO ?_ Ky;refine eO ?_ Kw;refine eO ?_ Kv;refine eO ?_ Ku;refine eO ?_ Kt;refine eO ?_ Kr;refine eO ?_ Pd;refine eO ?_ Pb;refine eO ?_ O9;refine eO ?_ O8;refine eO ?_ O7;refine eO ?_ O6;refine eO ?_ O5;refine eO ?_ O4;refine eO ?_ O3;exact O0
theorem JZ:Tryz.f3.isInstance Tryz.prog Rows.pausedRow.origin Rows.pausedRow.targs:=XJ (by kernel_rfl)
theorem J2:Tryz.f3.isWrapper Tryz.prog Rows.pausedRow.wrapper Rows.pausedRow.mainSum:=by unfold Func.isWrapper; first | (rw[Qr (by decide +kernel)]; kernel_rfl) | (rw[Qs (by decide +kernel)]; exact⟨rfl,rfl⟩)
theorem J3:Rows.PausedSaid:=
 OpenClaim.holds_of_wide 3 Tryz.f3 rfl rfl rfl rfl rfl rfl rfl ⟨rfl,rfl,rfl,rfl,rfl⟩ rfl rfl rfl rfl rfl DZ Tryz.func3 CO
  JZ J2 (fun os started H enc _=>CJ os started H enc)
