import Derived.Test.YtjndadibondgbaaGreatDoorL46
import Derived.Test.YtjndadibondgbaaGreatDoorL48
set_option linter.all false
set_option maxRecDepth 100000
set_option maxHeartbeats 16000000
namespace Go.Proofs.YtjndadibondgbaaGreatDoor
open Go.ChangeShapes Go.WideShapes Go.ChangeAt Go.RowKit Go.Proofs.Zz
theorem gB{a b:Bool}(ha:a=true)(hb:b=true):(a&&b)=true:=by rw[ha,hb]; rfl
theorem Ra:joinedFacts Tryz.prog 3 Tryz.f3 Rows.laidSpec Rows.laidRow=true:=by
 unfold joinedFacts;refine gB ?_ abz;refine gB ?_ aby;refine gB ?_ abx;refine gB ?_ (by kernel_rfl);refine gB ?_ abw;refine gB ?_ abv;refine gB ?_ abu;refine gB ?_ abt;refine gB ?_ abr;refine gB ?_ abq;refine gB ?_ abp;refine gB ?_ abo;refine gB ?_ abn;refine gB ?_ abm;refine gB ?_ abl;refine gB ?_ abk;refine gB ?_ abj;refine gB ?_ abh;refine gB ?_ abg;refine gB ?_ abf;refine gB ?_ abe;refine gB ?_ abd;refine gB ?_ ae1;refine gB ?_ ae0;refine gB ?_ aeZ;refine gB ?_ aeY;refine gB ?_ aeX;refine gB ?_ aeW;refine gB ?_ aeV;refine gB ?_ aeU;refine gB ?_ aeT;exact aeS
theorem aaL:Tryz.f3.isInstance Tryz.prog Rows.laidRow.origin Rows.laidRow.targs:=Xk (by kernel_rfl)
theorem aaM:Tryz.f3.isWrapper Tryz.prog Rows.laidRow.wrapper Rows.laidRow.mainSum:=by unfold Func.isWrapper; first | (rw[Qu (by decide +kernel)]; kernel_rfl) | (rw[Qv (by decide +kernel)]; exact⟨rfl,rfl⟩)
theorem aaN:Rows.LaidSaid:=
 OpenClaim.holds_of_wide 3 Tryz.f3 rfl rfl rfl rfl rfl rfl rfl ⟨rfl,rfl,rfl,rfl,rfl⟩ rfl rfl rfl rfl rfl RF Tryz.func3 Ra
  aaL aaM (fun os started H enc _=>P9 os started H enc)
