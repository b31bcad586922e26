import Derived.Test.YtgemohlbjehmbaaGreatDoorF47
import Derived.Test.YtgemohlbjehmbaaGreatDoorF49
set_option linter.all false
set_option maxRecDepth 100000
set_option maxHeartbeats 16000000
namespace Go.Proofs.YtgemohlbjehmbaaGreatDoor
open Go.ChangeShapes Go.WideShapes Go.ChangeAt Go.RowKit Go.Proofs.Zz
theorem iG{a b:Bool}(ha:a=true)(hb:b=true):(a&&b)=true:=by rw[ha,hb]; rfl
theorem Lx:joinedFacts Tryz.prog 3 Tryz.f3 Rows.foundSpec Rows.foundRow=true:=by unfold joinedFacts;refine iG ?_ VK;refine iG ?_ VJ;refine iG ?_ VI;refine iG ?_ (by kernel_rfl);refine iG ?_ VH;refine iG ?_ VG;refine iG ?_ VF;refine iG ?_ VE;refine iG ?_ VD;refine iG ?_ VC;refine iG ?_ VB;refine iG ?_ VA;refine iG ?_ Vz;refine iG ?_ Vy;refine iG ?_ Vx;refine iG ?_ Vw;refine iG ?_ Vv;refine iG ?_ Vu;refine iG ?_ Vt;refine iG ?_ Vs;refine iG ?_ Vr;refine iG ?_ Vq;refine iG ?_ abG;refine iG ?_ abF;refine iG ?_ abE;refine iG ?_ abD;refine iG ?_ abC;refine iG ?_ abB;refine iG ?_ abA;refine iG ?_ abz;refine iG ?_ aby;exact abx
theorem Us:Tryz.f3.isInstance Tryz.prog Rows.foundRow.origin Rows.foundRow.targs:=XA (by kernel_rfl)
theorem Ut:Tryz.f3.isWrapper Tryz.prog Rows.foundRow.wrapper Rows.foundRow.mainSum:=by unfold Func.isWrapper; first | (rw[Qo (by decide +kernel)]; kernel_rfl) | (rw[Qu (by decide +kernel)]; exact⟨rfl,rfl⟩)
theorem Uu:Rows.FoundSaid:=
 OpenClaim.holds_of_wide 3 Tryz.f3 rfl rfl rfl rfl rfl rfl rfl ⟨rfl,rfl,rfl,rfl,rfl⟩ rfl rfl rfl rfl rfl L8 Tryz.func3 Lx
  Us Ut (λos started H enc _=>Lv os started H enc)
