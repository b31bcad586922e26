import Derived.Test.YtlpbelhfpoilpaaGreatDoorRE21
set_option linter.all false
set_option maxRecDepth 100000
set_option maxHeartbeats 16000000
namespace Go.Proofs.Zz
open Go.RowKit Go.Shelf
theorem aet(f:au)(ts:List af)(q:ae)(n:ai)(ao:Option Addr)(cap:Nat)(ps:List az)(w:World)(ok:Ok ts q)(hf:f.At ts q w)(hcl:n.cl.At w)(hco:n.co.At w)(hcap:n.co.xs.length<=n.co.cap)(hp:PartsAt w ao ps)(hk:n.kind=4)(hl:ps.length=arity n.kind) :
  Cb 130 #[.agg (f.cells ts q),.agg n.cells,.slice ao ps.length cap] w (.bool (cZ ts q n (ps.getD 0 aT).d (ps.getD 1 aT).d)):=by
 obtain⟨v0,v1,v2,v3,v4,v5,v6,v7,v8,v9,v10,v11,v12,bB,hv0,hv1,hv2,hv3,hv4,hv5,hv6,-⟩:=Xu f ts q;have om:n.cells=#[.int .i64 n.kind,.int .i64 n.l,.int .i64 n.r,.int .i64 n.source,n.cl.val,.int .i64 n.key,n.co.val]:=rfl;obtain⟨w1,hw1,hk1,hg1⟩:=aU w ((f.cells ts q)) 90;obtain⟨w2,hw2,hk2,hg2⟩:=aU w1 n.cells 58;have hc1:=hk2;have hc0:=aA hk1 hc1;have iq:=hg1.of (hc1.block _ hg1.lt);have kI:=hg2;obtain⟨jJ,lJ,lK,mZ,kr,ng,ni⟩:=kI.k7;obtain⟨dJ,dY,dH,dW,dZ,eU,eH,gy,fV,fZ,dz,dE,dA⟩:=iq.k13 (by rw[bB]; rfl);have hpw:=hp.1;have hlk:ps.length=2:=by rw[hl,hk]; rfl
 have HC:=Zh hc0;obtain⟨RES,cK⟩:∃ R,R=cZ ts q n (ps.getD 0 aT).d (ps.getD 1 aT).d:=⟨_,rfl⟩
 rw[<- cK];unfold cZ at cK;rw[Qz (by rw[hk]; decide),Qz (by rw[hk]; decide),Qz (by rw[hk]; decide),Qy hk]at cK;have hl0:0<ps.length:=by omega
 obtain⟨⟨pb,po,rfl,c0,c1,c2,c3,c4,c5⟩,hLo⟩:=(Xb hc0 hp).2 0 hl0;rw[QP,Zf]at c0 c1 c2 c3 c4 c5;have hl1:1<ps.length:=by omega
 have anG:(1:Int)<(ps.length:Int):=by omega
 obtain⟨⟨pb',po',e',d0,d1,d2,d3,d4,d5⟩,hRo⟩:=(Xb hc0 hp).2 1 hl1
 cases e'
 rw[Nat.one_mul]at d0 d1 d2 d3 d4 d5;generalize ps.getD 0 aT=L at *;generalize ps.getD 1 aT=R at *;have WA:Hid (∀ x,Bw w2 x->Cb 200 #[.agg (f.cells ts q),.agg n.cells,.agg L.cells,.agg R.cells] x (.bool (kg ts q n L.sources R.sources))):=fun x hx=>qJ f ts q n L R x ok (hf.below (aA hc0 hx)) (Qv (aA hc0 hx) hcl) hLo.sources hRo.sources
 rw[bB]at WA;have HKC:Hid (∀ x,Bw w2 x->Cb 201 #[.agg (f.cells ts q),.agg n.cells,.agg L.cells,.agg R.cells] x (.tuple #[.int .i64 (iM ts q n L.sources R.sources).1,.int .i64 (iM ts q n L.sources R.sources).2.1,.bool (iM ts q n L.sources R.sources).2.2])):=fun x hx=>nS f ts q n L R x ok (hf.below (aA hc0 hx)) (Qv (aA hc0 hx) hcl) hLo.sources hRo.sources
 rw[bB]at HKC;have cK:RES=((iM ts q n L.sources R.sources).2.2&&kg ts q n L.sources R.sources):=cK;generalize kg ts q n L.sources R.sources=RB at *;generalize iM ts q n L.sources R.sources=KP at *;obtain⟨ka,kb,kok⟩:=KP;simp only at HKC cK;have kJ:=Zh cK;rw[bB,om];rw[bB]at hw1;rw[om]at hw2;clear cK hg1 hg2 iq kI hk1 hk2 hc0 hc1 hlk hl;clear hf hcl hco hcap hp ok bB om hv0 hv1 hv2 hv3 hv4 hv5 hv6;obtain⟨nk,nl,nr,ns,⟨ca,cc,cl⟩,key,⟨da,dc,co⟩⟩:=n;simp only at hk;subst hk;obtain⟨lk,ls,Gx,⟨la,Fx,lx⟩,lz,LZ⟩:=L;obtain⟨rk,rs,rcl,⟨ra,rcp,rx⟩,rz,rco⟩:=R;simp only[az.cells,ai.cells,ah.val]at *
 cases kok with
 | true =>
  have HV:Hid (RES=RB):=by show _=_; rw[kJ.o]; rfl
  clear kJ;go_enter Tryz.func130,Tryz.ntmps130;go_upto_region 9 with fail;clear hw1 hw2;refine QG (by kernel_rfl) (by kernel_rfl) ?_;go_big_quiet_want;refine⟨.agg #[v0,v1,v2,v3,v4,v5,v6,v7,v8,v9,v10,v11,v12],fun x hx=>?_,?_⟩
  ·have e0:=lI hx dJ dY dH dW dZ eU eH gy fV fZ dz dE dA;go_simp
  simp only[pU];go_big_quiet_on;go_big_quiet_want;refine⟨.agg #[.int .i64 4,.int .i64 nl,.int .i64 nr,.int .i64 ns,.slice ca cl.length cc,.int .i64 key,.slice da co.length dc],fun x hx=>?_,?_⟩
  ·have e0:=IJ hx jJ lJ lK mZ kr ng ni;go_simp
  simp only[pU];go_big_quiet_on;refine qS (.slice (some (aD pb po)) ps.length cap) ?_;refine qS (.pointer (some (aD pb po))) ?_;go_big_quiet_want;refine⟨.agg #[.int .i64 lk,.int .u64 (ls:Int),.int .u64 (Gx:Int),.slice la lx.length Fx,.int .u64 (lz:Int),.int .u64 (LZ:Int)],fun x hx=>?_,?_⟩
  ·have e0:=MI hx c0 c1 c2 c3 c4 c5;go_simp
  simp only[pU];go_big_quiet_on;refine qS (.slice (some (aD pb po)) ps.length cap) ?_;refine qS (.pointer (some (aD pb (po+6)))) ?_;go_big_quiet_want;refine⟨.agg #[.int .i64 rk,.int .u64 (rs:Int),.int .u64 (rcl:Int),.slice ra rx.length rcp,.int .u64 (rz:Int),.int .u64 (rco:Int)],fun x hx=>?_,?_⟩
  ·have e0:=MI hx d0 d1 d2 d3 d4 d5;go_simp
  simp only[pU];go_big_quiet_on;go_big_quiet_want;refine⟨.tuple #[.int .i64 ka,.int .i64 kb,.bool true],fun x hx=>?_,?_⟩
  ·have hC:=QH hx (HKC.o x hx);go_simp
  simp only[pU];go_big_quiet_on;refine qS (.tuple #[.int .i64 ka,.int .i64 kb,.bool true]) ?_;refine qS (.int .i64 ka) ?_;refine qS (.int .i64 kb) ?_;refine qS (.bool true) ?_;refine qS (.int .i64 ka) ?_;refine qS (.int .i64 kb) ?_;refine qS (.bool true) ?_;refine Xv ?_;intro w5 hb5;have Ee:=cB hb5 dJ;have Ef:=cB hb5 dY;have Eg:=cB hb5 dH;have Eh:=cB hb5 dW;have Ei:=cB hb5 dZ;have Ej:=cB hb5 eU;have Em:=cB hb5 eH;have En:=cB hb5 gy;have Eo:=cB hb5 fV;have Ep:=cB hb5 fZ;have uY:=cB hb5 dz;have uZ:=cB hb5 dE;have ve:=cB hb5 dA;have aem:=cB hb5 jJ;have aen:=cB hb5 lJ;have aeo:=cB hb5 lK;have aep:=cB hb5 mZ;have aeq:=cB hb5 kr;have aer:=cB hb5 ng;have aes:=cB hb5 ni;have cc0:=cB hb5 c0;have dd0:=cB hb5 d0;have cc1:=cB hb5 c1;have dd1:=cB hb5 d1;have cc2:=cB hb5 c2;have dd2:=cB hb5 d2;have cc3:=cB hb5 c3;have dd3:=cB hb5 d3;have cc4:=cB hb5 c4;have dd4:=cB hb5 d4;have cc5:=cB hb5 c5;have dd5:=cB hb5 d5;have kF:=hd hb5;have HC5:=Zh (aA HC.o hb5);clear hb5 dJ dY dH dW dZ eU eH gy fV fZ dz dE dA jJ lJ lK mZ kr ng ni c0 c1 c2 c3 c4 c5 d0 d1 d2 d3 d4 d5;go_wp2_with fail;refine QG (by kernel_rfl) (by kernel_rfl) ?_;refine qS (.bool true) ?_;refine qS (.bool true) ?_;go_big_quiet_want;refine⟨.agg #[v0,v1,v2,v3,v4,v5,v6,v7,v8,v9,v10,v11,v12],fun x hx=>?_,?_⟩
  ·have e0:=lI hx Ee Ef Eg Eh Ei Ej Em En Eo Ep uY uZ ve;go_simp
  simp only[pU];go_big_quiet_on;go_big_quiet_want;refine⟨.agg #[.int .i64 4,.int .i64 nl,.int .i64 nr,.int .i64 ns,.slice ca cl.length cc,.int .i64 key,.slice da co.length dc],fun x hx=>?_,?_⟩
  ·have e0:=IJ hx aem aen aeo aep aeq aer aes;go_simp
  simp only[pU];go_big_quiet_on;refine qS (.slice (some (aD pb po)) ps.length cap) ?_;refine qS (.pointer (some (aD pb po))) ?_;go_big_quiet_want;refine⟨.agg #[.int .i64 lk,.int .u64 (ls:Int),.int .u64 (Gx:Int),.slice la lx.length Fx,.int .u64 (lz:Int),.int .u64 (LZ:Int)],fun x hx=>?_,?_⟩
  ·have e0:=MI hx cc0 cc1 cc2 cc3 cc4 cc5;go_simp
  simp only[pU];go_big_quiet_on;refine qS (.slice (some (aD pb po)) ps.length cap) ?_;refine qS (.pointer (some (aD pb (po+6)))) ?_;go_big_quiet_want;refine⟨.agg #[.int .i64 rk,.int .u64 (rs:Int),.int .u64 (rcl:Int),.slice ra rx.length rcp,.int .u64 (rz:Int),.int .u64 (rco:Int)],fun x hx=>?_,?_⟩
  ·have e0:=MI hx dd0 dd1 dd2 dd3 dd4 dd5;go_simp
  simp only[pU];go_big_quiet_on;go_big_quiet_want;refine⟨.bool RB,fun x hx=>?_,?_⟩
  ·have hC:=QH hx (WA.o x (aA kF.o hx));go_simp
  simp only[pU];go_big_quiet_on;refine qS (.bool RB) ?_;refine qS (.bool RB) ?_;refine Xv ?_;intro wE mM;have jk:=Zh (aA HC5.o mM);clear mM;go_wp2;go_ret;exact⟨Qg HV.o.symm,jk.o⟩
 | false =>
  have HV:Hid (RES=false):=by show _=_; rw[kJ.o]; rfl
  clear kJ WA;go_enter Tryz.func130,Tryz.ntmps130;go_upto_region 9 with fail;clear hw1 hw2;refine QG (by kernel_rfl) (by kernel_rfl) ?_;go_big_quiet_want;refine⟨.agg #[v0,v1,v2,v3,v4,v5,v6,v7,v8,v9,v10,v11,v12],fun x hx=>?_,?_⟩
  ·have e0:=lI hx dJ dY dH dW dZ eU eH gy fV fZ dz dE dA;go_simp
  simp only[pU];go_big_quiet_on;go_big_quiet_want;refine⟨.agg #[.int .i64 4,.int .i64 nl,.int .i64 nr,.int .i64 ns,.slice ca cl.length cc,.int .i64 key,.slice da co.length dc],fun x hx=>?_,?_⟩
  ·have e0:=IJ hx jJ lJ lK mZ kr ng ni;go_simp
  simp only[pU];go_big_quiet_on;refine qS (.slice (some (aD pb po)) ps.length cap) ?_;refine qS (.pointer (some (aD pb po))) ?_;go_big_quiet_want;refine⟨.agg #[.int .i64 lk,.int .u64 (ls:Int),.int .u64 (Gx:Int),.slice la lx.length Fx,.int .u64 (lz:Int),.int .u64 (LZ:Int)],fun x hx=>?_,?_⟩
  ·have e0:=MI hx c0 c1 c2 c3 c4 c5;go_simp
  simp only[pU];go_big_quiet_on;refine qS (.slice (some (aD pb po)) ps.length cap) ?_;refine qS (.pointer (some (aD pb (po+6)))) ?_;go_big_quiet_want;refine⟨.agg #[.int .i64 rk,.int .u64 (rs:Int),.int .u64 (rcl:Int),.slice ra rx.length rcp,.int .u64 (rz:Int),.int .u64 (rco:Int)],fun x hx=>?_,?_⟩
  ·have e0:=MI hx d0 d1 d2 d3 d4 d5;go_simp
  simp only[pU];go_big_quiet_on;go_big_quiet_want;refine⟨.tuple #[.int .i64 ka,.int .i64 kb,.bool false],fun x hx=>?_,?_⟩
  ·have hC:=QH hx (HKC.o x hx);go_simp
  simp only[pU];go_big_quiet_on;refine qS (.tuple #[.int .i64 ka,.int .i64 kb,.bool false]) ?_;refine qS (.int .i64 ka) ?_;refine qS (.int .i64 kb) ?_;refine qS (.bool false) ?_;refine qS (.int .i64 ka) ?_;refine qS (.int .i64 kb) ?_;refine qS (.bool false) ?_;refine Xv ?_;intro w5 hb5;have Ee:=cB hb5 dJ;have Ef:=cB hb5 dY;have Eg:=cB hb5 dH;have Eh:=cB hb5 dW;have Ei:=cB hb5 dZ;have Ej:=cB hb5 eU;have Em:=cB hb5 eH;have En:=cB hb5 gy;have Eo:=cB hb5 fV;have Ep:=cB hb5 fZ;have uY:=cB hb5 dz;have uZ:=cB hb5 dE;have ve:=cB hb5 dA;have aem:=cB hb5 jJ;have aen:=cB hb5 lJ;have aeo:=cB hb5 lK;have aep:=cB hb5 mZ;have aeq:=cB hb5 kr;have aer:=cB hb5 ng;have aes:=cB hb5 ni;have cc0:=cB hb5 c0;have dd0:=cB hb5 d0;have cc1:=cB hb5 c1;have dd1:=cB hb5 d1;have cc2:=cB hb5 c2;have dd2:=cB hb5 d2;have cc3:=cB hb5 c3;have dd3:=cB hb5 d3;have cc4:=cB hb5 c4;have dd4:=cB hb5 d4;have cc5:=cB hb5 c5;have dd5:=cB hb5 d5;have kF:=hd hb5;have HC5:=Zh (aA HC.o hb5);clear hb5 dJ dY dH dW dZ eU eH gy fV fZ dz dE dA jJ lJ lK mZ kr ng ni c0 c1 c2 c3 c4 c5 d0 d1 d2 d3 d4 d5;go_wp2_with fail;refine QG (by kernel_rfl) (by kernel_rfl) ?_;refine qS (.bool false) ?_;go_big_quiet_want;refine⟨.bool false,fun x hx=>?_,?_⟩
  ·go_simp
  simp only[pU];go_big_quiet_on;go_big_quiet_skip
  try simp only[pU]
  iterate 8 (go_big_quiet_skip; try simp only[pU])
  refine qS (.bool false) ?_;refine qS (.bool false) ?_;refine Xv ?_;intro wE mM;have jk:=Zh (aA HC5.o mM);clear mM;go_wp2;go_ret;exact⟨Qg HV.o.symm,jk.o⟩
theorem aeu(f:au)(ts:List af)(q:ae)(n:ai)(ao:Option Addr)(cap:Nat)(ps:List az)(w:World)(ok:Ok ts q)(hf:f.At ts q w)(hcl:n.cl.At w)(hco:n.co.At w)(hcap:n.co.xs.length<=n.co.cap)(hp:PartsAt w ao ps)(hk:n.kind=5)(hl:ps.length=arity n.kind) :
  Cb 130 #[.agg (f.cells ts q),.agg n.cells,.slice ao ps.length cap] w (.bool (cZ ts q n (ps.getD 0 aT).d (ps.getD 1 aT).d)):=by
 obtain⟨v0,v1,v2,v3,v4,v5,v6,v7,v8,v9,v10,v11,v12,bB,hv0,hv1,hv2,hv3,hv4,hv5,hv6,-⟩:=Xu f ts q;have om:n.cells=#[.int .i64 n.kind,.int .i64 n.l,.int .i64 n.r,.int .i64 n.source,n.cl.val,.int .i64 n.key,n.co.val]:=rfl;obtain⟨w1,hw1,hk1,hg1⟩:=aU w ((f.cells ts q)) 90;obtain⟨w2,hw2,hk2,hg2⟩:=aU w1 n.cells 58;have hc1:=hk2;have hc0:=aA hk1 hc1;have iq:=hg1.of (hc1.block _ hg1.lt);have kI:=hg2;obtain⟨jJ,lJ,lK,mZ,kr,ng,ni⟩:=kI.k7;obtain⟨dJ,dY,dH,dW,dZ,eU,eH,gy,fV,fZ,dz,dE,dA⟩:=iq.k13 (by rw[bB]; rfl);have hpw:=hp.1;have hlk:ps.length=2:=by rw[hl,hk]; rfl
 have HC:=Zh hc0;obtain⟨RES,cK⟩:∃ R,R=cZ ts q n (ps.getD 0 aT).d (ps.getD 1 aT).d:=⟨_,rfl⟩
 rw[<- cK];unfold cZ at cK;rw[Qz (by rw[hk]; decide),Qz (by rw[hk]; decide),Qz (by rw[hk]; decide),Qz (by rw[hk]; decide),Qy hk]at cK;have hl0:0<ps.length:=by omega
 obtain⟨⟨pb,po,rfl,c0,c1,c2,c3,c4,c5⟩,hLo⟩:=(Xb hc0 hp).2 0 hl0;rw[QP,Zf]at c0 c1 c2 c3 c4 c5;have hl1:1<ps.length:=by omega
 have anG:(1:Int)<(ps.length:Int):=by omega
 obtain⟨⟨pb',po',e',d0,d1,d2,d3,d4,d5⟩,hRo⟩:=(Xb hc0 hp).2 1 hl1
 cases e'
 rw[Nat.one_mul]at d0 d1 d2 d3 d4 d5;generalize ps.getD 0 aT=L at *;generalize ps.getD 1 aT=R at *;have HMF:Hid (∀ x,Bw w2 x->Cb 202 #[.agg (f.cells ts q),.agg n.cells,.agg L.cells,.agg R.cells] x (.bool (zP ts q n L.d R.d))):=fun x hx=>EK f ts q n L R x ok (hf.below (aA hc0 hx)) (Qv (aA hc0 hx) hcl) (hLo.below hx) (hRo.below hx)
 rw[bB]at HMF;have cK:RES=zP ts q n L.d R.d:=cK;generalize zP ts q n L.d R.d=RB at *;have kJ:=Zh cK;rw[bB,om];rw[bB]at hw1;rw[om]at hw2;clear cK hg1 hg2 iq kI hk1 hk2 hc0 hc1 hlk hl;clear hf hcl hco hcap hp ok bB om hv0 hv1 hv2 hv3 hv4 hv5 hv6;obtain⟨nk,nl,nr,ns,⟨ca,cc,cl⟩,key,⟨da,dc,co⟩⟩:=n;simp only at hk;subst hk;obtain⟨lk,ls,Gx,⟨la,Fx,lx⟩,lz,LZ⟩:=L;obtain⟨rk,rs,rcl,⟨ra,rcp,rx⟩,rz,rco⟩:=R;simp only[az.cells,ai.cells,ah.val]at *;have HV:=Zh kJ.o;clear kJ;go_enter Tryz.func130,Tryz.ntmps130;go_upto_region 12 with fail;clear hw1 hw2;refine QG (by kernel_rfl) (by kernel_rfl) ?_;go_big_quiet_want;refine⟨.agg #[v0,v1,v2,v3,v4,v5,v6,v7,v8,v9,v10,v11,v12],fun x hx=>?_,?_⟩
 ·have e0:=lI hx dJ dY dH dW dZ eU eH gy fV fZ dz dE dA;go_simp
 simp only[pU];go_big_quiet_on;go_big_quiet_want;refine⟨.agg #[.int .i64 5,.int .i64 nl,.int .i64 nr,.int .i64 ns,.slice ca cl.length cc,.int .i64 key,.slice da co.length dc],fun x hx=>?_,?_⟩
 ·have e0:=IJ hx jJ lJ lK mZ kr ng ni;go_simp
 simp only[pU];go_big_quiet_on;refine qS (.slice (some (aD pb po)) ps.length cap) ?_;refine qS (.pointer (some (aD pb po))) ?_;go_big_quiet_want;refine⟨.agg #[.int .i64 lk,.int .u64 (ls:Int),.int .u64 (Gx:Int),.slice la lx.length Fx,.int .u64 (lz:Int),.int .u64 (LZ:Int)],fun x hx=>?_,?_⟩
 ·have e0:=MI hx c0 c1 c2 c3 c4 c5;go_simp
 simp only[pU];go_big_quiet_on;refine qS (.slice (some (aD pb po)) ps.length cap) ?_;refine qS (.pointer (some (aD pb (po+6)))) ?_;go_big_quiet_want;refine⟨.agg #[.int .i64 rk,.int .u64 (rs:Int),.int .u64 (rcl:Int),.slice ra rx.length rcp,.int .u64 (rz:Int),.int .u64 (rco:Int)],fun x hx=>?_,?_⟩
 ·have e0:=MI hx d0 d1 d2 d3 d4 d5;go_simp
 simp only[pU];go_big_quiet_on;go_big_quiet_want;refine⟨.bool RB,fun x hx=>?_,?_⟩
 ·have hC:=QH hx (HMF.o x hx);go_simp
 simp only[pU];go_big_quiet_on;refine qS (.bool RB) ?_;refine Xv ?_;intro wE mM;have jk:=Zh (aA HC.o mM);clear mM;go_wp2;go_ret;exact⟨Qg HV.o.symm,jk.o⟩
def Dk(ts:List af)(src aO:List Int)(s i:Nat):Bool:=
 decide (0<=aO.getD i 0)&&decide (aO.getD i 0<aJ ts src) && !decide (aO.getD i 0∈aO.take i)&&aS s (2 ^ aY ts src (aO.getD i 0))
theorem aa9(ts:List af)(src aO:List Int)(s:Nat):lM ts src aO s=(decide (0<aO.length)&&decide ((aO.length:Int)<=aJ ts src)&&(List.range aO.length).all (Dk ts src aO s)):=rfl
theorem Il(f:au)(ts:List af)(q:ae)(la:Option Addr)(lc:Nat)(l:List Int)(s:Nat)(w:World)(ok:Ok ts q)(hf:iF w f.ca (iP ts q))(hl:aB w la l)(hcap:l.length<=lc)(hs:s<18446744073709551616) :
  Cb 203 #[.agg (f.cells ts q),.slice la l.length lc,.int .u64 (s:Int)] w (.bool (lM ts q.src.xs l s)):=by
 obtain⟨v0,v1,v2,v3,v4,v5,v6,v7,v8,v9,v10,v11,v12,bB,-,-,-,-,-,-,-,hv7,-⟩:=Xu f ts q;obtain⟨w1,hw1,hk1,hg1⟩:=aU w ((f.cells ts q)) 90;have hc0:=hk1;have iq:=hg1;obtain⟨dJ,dY,dH,dW,dZ,eU,eH,gy,fV,fZ,dz,dE,dA⟩:=iq.k13 (by rw[bB]; rfl);subst hv7;have hcl:=zg ok;have HSP:Hid (lM ts q.src.xs l s=(decide (0<l.length)&&decide (l.length<=(iP ts q).length)&&(List.range l.length).all (Dk ts q.src.xs l s))):=by
  show _=_
  have hd:decide ((l.length:Int)<=((iP ts q).length:Int))=decide (l.length<=(iP ts q).length):=by rw[QI,QJ,QJ]; omega
  rw[aa9,<- hcl,hd]
 have HAT:Hid (∀ i,Dk ts q.src.xs l s i=(decide (0<=l.getD i 0)&&decide (l.getD i 0<((iP ts q).length:Int)) && !decide (l.getD i 0∈l.take i)&&aS s (2 ^ aY ts q.src.xs (l.getD i 0)))):=fun i=>by unfold Dk; rw[hcl]
 have uS:Hid (∀ x b c,Bw w1 x->x.cell? (aD b 0)=some (.int .i64 c)->0<=c->c<((iP ts q).length:Int)->(Cb 196 #[.agg (f.cells ts q),.slice (some (aD b 0)) 1 1] x (.int .u64 ((2 ^ aY ts q.src.xs c:Nat):Int)))/\2 ^ aY ts q.src.xs c<18446744073709551616):=
  fun x b c hb h0 h1 h2=>⟨uX f ts q b c x ok (hf.below (aA hc0 hb)) h0 (fun c' hc'=>by rw[ZR]at hc'; subst hc'; exact⟨h1,by omega⟩),Xi (n:=64) (by omega) (Q6 (BN ok h1 (by omega)) ok.small)⟩
 have Ym:Hid (∀ x m,m<18446744073709551616->_):=fun x m hm=>lN s m hs hm x
 have DF:Hid _:=Qv hc0 hl;have hl1:=hl.1;have hcs:=hf.1;have HC:=Zh hc0;rw[bB]at uS hw1 ⊢;generalize lM ts q.src.xs l s=SP at *;generalize Dk ts q.src.xs l s=SA at *;obtain⟨SN,hSN⟩:∃ SN:Int->Nat,∀ c,2 ^ aY ts q.src.xs c=SN c:=⟨_,fun _=>rfl⟩
 simp only[hSN]at HAT uS;have JW:=Zh HAT.o;have TP:=Zh uS.o;generalize iP ts q=CS at *;clear hSN HAT uS hcl bB hg1 iq hk1 hc0 hf hl ok hs;by_cases z0:l.length=0
 ·have HV:Hid (SP=false):=by show _=_; rw[HSP.o,Ql (by omega)]; rfl
  have zb:((l.length:Int)==0)=true:=by rw[z0]; rfl
  clear HSP JW TP Ym z0;go_enter Tryz.func203,Tryz.ntmps203;go_wp2;go_ret;exact⟨Qg HV.o.symm,HC.o⟩
 have zb:((l.length:Int)==0)=false:=by rw[Xr]; omega
 by_cases z1:CS.length<l.length
 ·have HV:Hid (SP=false):=by show _=_; rw[HSP.o,Ql (show ¬ l.length<=CS.length by omega),Qn]; rfl
  have z1':(CS.length:Int)<(l.length:Int):=by omega
  clear HSP JW TP Ym z0;go_enter Tryz.func203,Tryz.ntmps203;go_wp2;go_ret;exact⟨Qg HV.o.symm,HC.o⟩
 have HSQ:Hid (SP=(List.range l.length).all SA):=by show _=_; rw[HSP.o,QD (by omega),QD (by omega)]; rfl
 clear HSP z0;go_enter Tryz.func203,Tryz.ntmps203;go_wp2;clear hw1;go_loopw [22] (fun iv wr=>∃ k:Nat,k<=l.length/\iv=.int .i64 k/\Hid (∀ j,j<k->SA j=true)/\Bw w1 wr) (fun iv _=>l.length-(intOf iv).toNat)
 case atStart=>exact⟨0,Q8 _,rfl,fun j hj=>absurd hj (by omega),Qw _ _⟩
 case round=>
  obtain⟨k,hk,rfl,HJ,hbr⟩:=hrel;by_cases hlt:k<l.length
  ·obtain⟨lb,lo,rfl,hlc⟩:=Qj DF.o hlt;have hck:=cB hbr (hlc k hlt);have mh:=Zh (JW.o k);have HBAD:Hid (SA k=false->SP=false):=fun e=>by
    rw[HSQ.o,Qo];exact⟨k,Xq.2 hlt,by rw[e]; simp⟩
   have Fs:Hid (SA k=true->∀ j,j<k+1->SA j=true):=fun h j hj=>by
    rcases Qq j k with h' | h'
    ·exact HJ.o j h'
    ·obtain rfl:j=k:=by omega
     exact h
   have hIT:=xA (some (aD lb lo)) lc (l.take k) (l.getD k 0) wr (Qv hbr (aB.take DF.o k));rw[Zm,QK (by omega)]at hIT;have DI:=Zh (aA HC.o hbr);clear hlc HJ JW;generalize l.take k=LT at *;generalize l.getD k 0=c at *;by_cases h1:c<0
   ·have HV:=Zh (HBAD.o (by rw[mh.o,Ql (by omega)]; rfl));clear mh HBAD Fs hIT;go_wp2;go_ret;exact⟨Qg HV.o.symm,DI.o⟩
   have p7:=cB hbr gy;by_cases h2:(CS.length:Int)<=c
   ·have HV:=Zh (HBAD.o (by rw[mh.o,Ql (show ¬ c<(CS.length:Int) by omega),Qn]; rfl));clear mh HBAD Fs hIT;go_wp2;go_ret;exact⟨Qg HV.o.symm,DI.o⟩
   clear p7;have q0:=cB hbr dJ;have q1:=cB hbr dY;have q2:=cB hbr dH;have q3:=cB hbr dW;have q4:=cB hbr dZ;have q5:=cB hbr eU;have q6:=cB hbr eH;have q7:=cB hbr gy;have q8:=cB hbr fV;have q9:=cB hbr fZ;have q10:=cB hbr dz;have q11:=cB hbr dE;have q12:=cB hbr dA;by_cases h3:c∈LT
   ·have HV:=Zh (HBAD.o (by rw[mh.o,QD h3]; simp));rw[QD h3]at hIT;clear mh HBAD Fs h3;go_wp2_with fail;refine Xt hIT ?_;clear hIT;rintro e w2 ⟨rfl,rfl⟩;go_wp2;go_ret;exact⟨Qg HV.o.symm,DI.o⟩
   rw[Ql h3]at hIT mh;obtain⟨wa,JY⟩:∃ x,wr.alloc (.cells #[.int .i64 c] 3)=x:=⟨_,rfl⟩
   have hka:Bw wr wa:=by rw[<- JY]; exact dn _ _
   obtain⟨Fw,hsn⟩:=TP.o wa wr.heap.size c (aA hbr hka) (by rw[<- JY]; simp) (by omega) (by omega);have HBA:=Zh (aA hbr hka);have HKA:=Zh hka;generalize SN c=m at *;have anU:Hid (∀ x,_):=fun x=>Ym.o x m hsn
   have hd1:decide (0<=c)=true:=QD (by omega);have hd2:decide (c<(CS.length:Int))=true:=QD (by omega);rw[hd1,hd2]at mh;generalize aS s m=CB at *;clear hd1 hd2 hka hsn h3
   cases CB with
   | true =>
    have HT:=Zh (Fs.o (by rw[mh.o]; rfl));clear mh HBAD Fs;go_wp2_with fail;refine Xt hIT ?_;clear hIT;rintro e w2 ⟨rfl,rfl⟩;go_wp2_with fail;refine Xt Fw ?_;clear Fw JY;rintro e w3 ⟨rfl,hb3⟩;have HB3:=Zh (aA HBA.o hb3);clear hb3 hbr;go_wp2_with fail;refine Xt (anU.o _) ?_;rintro e w4 ⟨rfl,rfl⟩;go_wp2;go_roundw
    case rel=>exact⟨k+1,by omega,by go_num,HT.o,HB3.o⟩
    case measure=>simp[intOf]; omega
   | false =>
    have HV:=Zh (HBAD.o (by rw[mh.o]; rfl));clear mh HBAD Fs;go_wp2_with fail;refine Xt hIT ?_;clear hIT;rintro e w2 ⟨rfl,rfl⟩;go_wp2_with fail;refine Xt Fw ?_;clear Fw JY;rintro e w3 ⟨rfl,hb3⟩;have HB3:=Zh (aA HC.o (aA HBA.o hb3));clear hb3 hbr;go_wp2_with fail;refine Xt (anU.o _) ?_;rintro e w4 ⟨rfl,rfl⟩;go_wp2;go_ret;exact⟨Qg HV.o.symm,HB3.o⟩
  ·have HV:Hid (SP=true):=by
    show _=_
    rw[HSQ.o,Qu];exact fun i hi=>HJ.o i (by have:=Xq.1 hi; omega)
   have DI:=Zh (aA HC.o hbr);clear HJ JW TP hbr;go_wp2;go_ret;exact⟨Qg HV.o.symm,DI.o⟩
theorem aev(f:au)(ts:List af)(q:ae)(n:ai)(ao:Option Addr)(cap:Nat)(ps:List az)(w:World)(ok:Ok ts q)(hf:f.At ts q w)(hcl:n.cl.At w)(hco:n.co.At w)(hcap:n.co.xs.length<=n.co.cap)(hp:PartsAt w ao ps)(hk:n.kind=6)(hl:ps.length=arity n.kind) :
  Cb 130 #[.agg (f.cells ts q),.agg n.cells,.slice ao ps.length cap] w (.bool (cZ ts q n (ps.getD 0 aT).d (ps.getD 1 aT).d)):=by
 obtain⟨v0,v1,v2,v3,v4,v5,v6,v7,v8,v9,v10,v11,v12,bB,hv0,hv1,hv2,hv3,hv4,hv5,hv6,-⟩:=Xu f ts q;have om:n.cells=#[.int .i64 n.kind,.int .i64 n.l,.int .i64 n.r,.int .i64 n.source,n.cl.val,.int .i64 n.key,n.co.val]:=rfl;obtain⟨w1,hw1,hk1,hg1⟩:=aU w ((f.cells ts q)) 90;obtain⟨w2,hw2,hk2,hg2⟩:=aU w1 n.cells 58;have hc1:=hk2;have hc0:=aA hk1 hc1;have iq:=hg1.of (hc1.block _ hg1.lt);have kI:=hg2;obtain⟨jJ,lJ,lK,mZ,kr,ng,ni⟩:=kI.k7;obtain⟨dJ,dY,dH,dW,dZ,eU,eH,gy,fV,fZ,dz,dE,dA⟩:=iq.k13 (by rw[bB]; rfl);have hpw:=hp.1;have hlk:ps.length=1:=by rw[hl,hk]; rfl
 have HC:=Zh hc0;obtain⟨RES,cK⟩:∃ R,R=cZ ts q n (ps.getD 0 aT).d (ps.getD 1 aT).d:=⟨_,rfl⟩
 rw[<- cK];unfold cZ at cK;rw[Qz (by rw[hk]; decide),Qz (by rw[hk]; decide),Qz (by rw[hk]; decide),Qz (by rw[hk]; decide),Qz (by rw[hk]; decide),Qy hk]at cK;have hl0:0<ps.length:=by omega
 obtain⟨⟨pb,po,rfl,c0,c1,c2,c3,c4,c5⟩,hLo⟩:=(Xb hc0 hp).2 0 hl0;rw[QP,Zf]at c0 c1 c2 c3 c4 c5;generalize ps.getD 0 aT=L at *;generalize ps.getD 1 aT=R at *;have HSF:Hid (∀ x,Bw w2 x->Cb 203 #[.agg (f.cells ts q),n.co.val,.int .u64 (L.sources:Int)] x (.bool (lM ts q.src.xs n.co.xs L.sources))):=fun x hx=>Il f ts q n.co.ad n.co.cap n.co.xs L.sources x ok (iF.below (aA hc0 hx) hf.aO) (Qv (aA hc0 hx) hco) hcap (by have:=hLo.sources; unfold bV at this; omega)
 rw[bB]at HSF;have cK:RES=lM ts q.src.xs n.co.xs L.sources:=cK;generalize lM ts q.src.xs n.co.xs L.sources=RB at *;have kJ:=Zh cK;rw[bB,om];rw[bB]at hw1;rw[om]at hw2;clear cK hg1 hg2 iq kI hk1 hk2 hc0 hc1 hlk hl;clear hf hcl hco hcap hp ok bB om hv0 hv1 hv2 hv3 hv4 hv5 hv6;obtain⟨nk,nl,nr,ns,⟨ca,cc,cl⟩,key,⟨da,dc,co⟩⟩:=n;simp only at hk;subst hk;obtain⟨lk,ls,Gx,⟨la,Fx,lx⟩,lz,LZ⟩:=L;simp only[az.cells,ai.cells,ah.val]at *;have HV:=Zh kJ.o;clear kJ;go_enter Tryz.func130,Tryz.ntmps130;go_upto_region 14 with fail;clear hw1 hw2;refine QG (by kernel_rfl) (by kernel_rfl) ?_;go_big_quiet_want;refine⟨.agg #[v0,v1,v2,v3,v4,v5,v6,v7,v8,v9,v10,v11,v12],fun x hx=>?_,?_⟩
 ·have e0:=lI hx dJ dY dH dW dZ eU eH gy fV fZ dz dE dA;go_simp
 simp only[pU];go_big_quiet_on;refine qS (.pointer (some (aD w1.heap.size 6))) ?_;refine qC (.slice da co.length dc) ni ?_;refine qS (.slice (some (aD pb po)) ps.length cap) ?_;refine qS (.pointer (some (aD pb po))) ?_;refine qS (.pointer (some (aD pb (po+1)))) ?_;refine qC (.int .u64 (ls:Int)) c1 ?_;go_big_quiet_want;refine⟨.bool RB,fun x hx=>?_,?_⟩
 ·have hC:=QH hx (HSF.o x hx);go_simp
 simp only[pU];go_big_quiet_on;refine qS (.bool RB) ?_;refine Xv ?_;intro wE mM;have jk:=Zh (aA HC.o mM);clear mM;go_wp2;go_ret;exact⟨Qg HV.o.symm,jk.o⟩
theorem aew(f:au)(ts:List af)(q:ae)(n:ai)(ao:Option Addr)(cap:Nat)(ps:List az)(w:World)(ok:Ok ts q)(hf:f.At ts q w)(hcl:n.cl.At w)(hco:n.co.At w)(hcap:n.co.xs.length<=n.co.cap)(hp:PartsAt w ao ps)(hk:n.kind=7)(hl:ps.length=arity n.kind) :
  Cb 130 #[.agg (f.cells ts q),.agg n.cells,.slice ao ps.length cap] w (.bool (cZ ts q n (ps.getD 0 aT).d (ps.getD 1 aT).d)):=by
 obtain⟨v0,v1,v2,v3,v4,v5,v6,v7,v8,v9,v10,v11,v12,bB,hv0,hv1,hv2,hv3,hv4,hv5,hv6,-⟩:=Xu f ts q;have om:n.cells=#[.int .i64 n.kind,.int .i64 n.l,.int .i64 n.r,.int .i64 n.source,n.cl.val,.int .i64 n.key,n.co.val]:=rfl;obtain⟨w1,hw1,hk1,hg1⟩:=aU w ((f.cells ts q)) 90;obtain⟨w2,hw2,hk2,hg2⟩:=aU w1 n.cells 58;have hc1:=hk2;have hc0:=aA hk1 hc1;have iq:=hg1.of (hc1.block _ hg1.lt);have kI:=hg2;obtain⟨jJ,lJ,lK,mZ,kr,ng,ni⟩:=kI.k7;obtain⟨dJ,dY,dH,dW,dZ,eU,eH,gy,fV,fZ,dz,dE,dA⟩:=iq.k13 (by rw[bB]; rfl);have hpw:=hp.1;have hlk:ps.length=1:=by rw[hl,hk]; rfl
 have HC:=Zh hc0;obtain⟨RES,cK⟩:∃ R,R=cZ ts q n (ps.getD 0 aT).d (ps.getD 1 aT).d:=⟨_,rfl⟩
 rw[<- cK];unfold cZ at cK;rw[Qz (by rw[hk]; decide),Qz (by rw[hk]; decide),Qz (by rw[hk]; decide),Qz (by rw[hk]; decide),Qz (by rw[hk]; decide),Qz (by rw[hk]; decide),Qy hk]at cK;have hl0:0<ps.length:=by omega
 obtain⟨⟨pb,po,rfl,c0,c1,c2,c3,c4,c5⟩,hLo⟩:=(Xb hc0 hp).2 0 hl0;rw[QP,Zf]at c0 c1 c2 c3 c4 c5;generalize ps.getD 0 aT=L at *;generalize ps.getD 1 aT=R at *;have yS:Hid (∀ x,Bw w2 x->Cb 204 #[.agg (f.cells ts q),.agg L.cells] x (.bool (jU q L.d))):=fun x hx=>su f ts q L x
 rw[bB]at yS;rw[hv2]at dH yS bB;have cK:=cK;generalize jU q L.d=RB at *;generalize q.group=gr at *;have kJ:=Zh cK;rw[bB,om];rw[bB]at hw1;rw[om]at hw2;clear cK hg1 hg2 iq kI hk1 hk2 hc0 hc1 hlk hl;clear hf hcl hco hcap hp ok bB om hv0 hv1 hv2 hv3 hv4 hv5 hv6;obtain⟨nk,nl,nr,ns,⟨ca,cc,cl⟩,key,⟨da,dc,co⟩⟩:=n;simp only at hk;subst hk;obtain⟨lk,ls,Gx,⟨la,Fx,lx⟩,lz,LZ⟩:=L;simp only[az.cells,ai.cells,ah.val]at *
 cases gr with
 | true =>
  have HV:Hid (RES=RB):=by show _=_; rw[kJ.o]; rfl
  clear kJ;go_enter Tryz.func130,Tryz.ntmps130;go_upto_region 16 with fail;clear hw1 hw2;refine QG (by kernel_rfl) (by kernel_rfl) ?_;refine qS (.pointer (some (aD w.heap.size 0))) ?_;refine qS (.pointer (some (aD w.heap.size 2))) ?_;refine qC (.bool true) dH ?_;refine qS (.bool true) ?_;go_big_quiet_want;refine⟨.agg #[v0,v1,.bool true,v3,v4,v5,v6,v7,v8,v9,v10,v11,v12],fun x hx=>?_,?_⟩
  ·have e0:=lI hx dJ dY dH dW dZ eU eH gy fV fZ dz dE dA;go_simp
  simp only[pU];go_big_quiet_on;refine qS (.slice (some (aD pb po)) ps.length cap) ?_;refine qS (.pointer (some (aD pb po))) ?_;go_big_quiet_want;refine⟨.agg #[.int .i64 lk,.int .u64 (ls:Int),.int .u64 (Gx:Int),.slice la lx.length Fx,.int .u64 (lz:Int),.int .u64 (LZ:Int)],fun x hx=>?_,?_⟩
  ·have e0:=MI hx c0 c1 c2 c3 c4 c5;go_simp
  simp only[pU];go_big_quiet_on;go_big_quiet_want;refine⟨.bool RB,fun x hx=>?_,?_⟩
  ·have hC:=QH hx (yS.o x hx);go_simp
  simp only[pU];go_big_quiet_on;refine qS (.bool RB) ?_;refine qS (.bool RB) ?_;refine Xv ?_;intro wE mM;have jk:=Zh (aA HC.o mM);clear mM;go_wp2;go_ret;exact⟨Qg HV.o.symm,jk.o⟩
 | false =>
  have HV:Hid (RES=false):=by show _=_; rw[kJ.o]; rfl
  clear kJ;go_enter Tryz.func130,Tryz.ntmps130;go_upto_region 16 with fail;clear hw1 hw2;refine QG (by kernel_rfl) (by kernel_rfl) ?_;refine qS (.pointer (some (aD w.heap.size 0))) ?_;refine qS (.pointer (some (aD w.heap.size 2))) ?_;refine qC (.bool false) dH ?_;go_big_quiet_want;refine⟨.bool false,fun x hx=>?_,?_⟩
  ·go_simp
  simp only[pU];go_big_quiet_on;go_big_quiet_skip
  try simp only[pU]
  iterate 4 (go_big_quiet_skip; try simp only[pU])
  refine qS (.bool false) ?_;refine qS (.bool false) ?_;refine Xv ?_;intro wE mM;have jk:=Zh (aA HC.o mM);clear mM;go_wp2;go_ret;exact⟨Qg HV.o.symm,jk.o⟩
theorem aex(f:au)(ts:List af)(q:ae)(n:ai)(ao:Option Addr)(cap:Nat)(ps:List az)(w:World)(ok:Ok ts q)(hf:f.At ts q w)(hcl:n.cl.At w)(hco:n.co.At w)(hcap:n.co.xs.length<=n.co.cap)(hp:PartsAt w ao ps)(hk:n.kind=8)(hl:ps.length=arity n.kind) :
  Cb 130 #[.agg (f.cells ts q),.agg n.cells,.slice ao ps.length cap] w (.bool (cZ ts q n (ps.getD 0 aT).d (ps.getD 1 aT).d)):=by
 obtain⟨v0,v1,v2,v3,v4,v5,v6,v7,v8,v9,v10,v11,v12,bB,hv0,hv1,hv2,hv3,hv4,hv5,hv6,-⟩:=Xu f ts q;have om:n.cells=#[.int .i64 n.kind,.int .i64 n.l,.int .i64 n.r,.int .i64 n.source,n.cl.val,.int .i64 n.key,n.co.val]:=rfl;obtain⟨w1,hw1,hk1,hg1⟩:=aU w ((f.cells ts q)) 90;obtain⟨w2,hw2,hk2,hg2⟩:=aU w1 n.cells 58;have hc1:=hk2;have hc0:=aA hk1 hc1;have iq:=hg1.of (hc1.block _ hg1.lt);have kI:=hg2;obtain⟨jJ,lJ,lK,mZ,kr,ng,ni⟩:=kI.k7;obtain⟨dJ,dY,dH,dW,dZ,eU,eH,gy,fV,fZ,dz,dE,dA⟩:=iq.k13 (by rw[bB]; rfl);have hpw:=hp.1;have hlk:ps.length=1:=by rw[hl,hk]; rfl
 have HC:=Zh hc0;obtain⟨RES,cK⟩:∃ R,R=cZ ts q n (ps.getD 0 aT).d (ps.getD 1 aT).d:=⟨_,rfl⟩
 rw[<- cK];unfold cZ at cK;rw[Qz (by rw[hk]; decide),Qz (by rw[hk]; decide),Qz (by rw[hk]; decide),Qz (by rw[hk]; decide),Qz (by rw[hk]; decide),Qz (by rw[hk]; decide),Qz (by rw[hk]; decide),Qy hk]at cK;have hl0:0<ps.length:=by omega
 obtain⟨⟨pb,po,rfl,c0,c1,c2,c3,c4,c5⟩,hLo⟩:=(Xb hc0 hp).2 0 hl0;rw[QP,Zf]at c0 c1 c2 c3 c4 c5;generalize ps.getD 0 aT=L at *;generalize ps.getD 1 aT=R at *;have yS:Hid (∀ x,Bw w2 x->Cb 204 #[.agg (f.cells ts q),.agg L.cells] x (.bool (jU q L.d))):=fun x hx=>su f ts q L x
 rw[bB]at yS;rw[hv2]at dH yS bB;have MZ:Hid (∀ x,Bw w2 x->Cb 205 #[L.order.val,q.keys.val] x (.bool (aP L.order.xs q.keys.xs))):=fun x hx=>jI L.order.ad q.keys.ad L.order.cap q.keys.cap L.order.xs q.keys.xs x (Qv hx hLo.order) (Qv (aA hc0 hx) hf.query.keys) hLo.cap
 rw[hv3]at dW yS bB;have cK:RES=(q.group&&jU q L.d&&aP L.order.xs q.keys.xs):=cK;generalize jU q L.d=RB at *;generalize aP L.order.xs q.keys.xs=SB at *;generalize q.group=gr at *;obtain⟨⟨qa,qcp,qk⟩,hqk⟩:∃ x,x=q.keys:=⟨_,rfl⟩
 rw[<- hqk]at dW yS MZ bB;clear hqk;have kJ:=Zh cK;rw[bB,om];rw[bB]at hw1;rw[om]at hw2;clear cK hg1 hg2 iq kI hk1 hk2 hc0 hc1 hlk hl;clear hf hcl hco hcap hp ok bB om hv0 hv1 hv2 hv3 hv4 hv5 hv6;obtain⟨nk,nl,nr,ns,⟨ca,cc,cl⟩,key,⟨da,dc,co⟩⟩:=n;simp only at hk;subst hk;obtain⟨lk,ls,Gx,⟨la,Fx,lx⟩,lz,LZ⟩:=L;simp only[az.cells,ai.cells,ah.val]at *
 cases gr with
 | false =>
  have HV:Hid (RES=false):=by show _=_; rw[kJ.o]; rfl
  clear kJ;go_enter Tryz.func130,Tryz.ntmps130;go_upto_region 18 with fail;clear hw1 hw2;refine QG (by kernel_rfl) (by kernel_rfl) ?_;refine qS (.pointer (some (aD w.heap.size 0))) ?_;refine qS (.pointer (some (aD w.heap.size 2))) ?_;refine qC (.bool false) dH ?_;go_big_quiet_want;refine⟨.bool false,fun x hx=>?_,?_⟩
  ·go_simp
  simp only[pU];go_big_quiet_on;go_big_quiet_skip
  try simp only[pU]
  iterate 4 (go_big_quiet_skip; try simp only[pU])
  refine qS (.bool false) ?_;go_big_quiet_want;refine⟨.bool false,fun x hx=>?_,?_⟩
  ·go_simp
  simp only[pU];go_big_quiet_on;go_big_quiet_skip
  try simp only[pU]
  iterate 7 (go_big_quiet_skip; try simp only[pU])
  refine qS (.bool false) ?_;refine qS (.bool false) ?_;refine Xv ?_;intro wE mM;have jk:=Zh (aA HC.o mM);clear mM;go_wp2;go_ret;exact⟨Qg HV.o.symm,jk.o⟩
 | true =>
  cases RB with
  | false =>
   have HV:Hid (RES=false):=by show _=_; rw[kJ.o]; rfl
   clear kJ;go_enter Tryz.func130,Tryz.ntmps130;go_upto_region 18 with fail;clear hw1 hw2;refine QG (by kernel_rfl) (by kernel_rfl) ?_;refine qS (.pointer (some (aD w.heap.size 0))) ?_;refine qS (.pointer (some (aD w.heap.size 2))) ?_;refine qC (.bool true) dH ?_;refine qS (.bool true) ?_;go_big_quiet_want;refine⟨.agg #[v0,v1,.bool true,.slice qa qk.length qcp,v4,v5,v6,v7,v8,v9,v10,v11,v12],fun x hx=>?_,?_⟩
   ·have e0:=lI hx dJ dY dH dW dZ eU eH gy fV fZ dz dE dA;go_simp
   simp only[pU];go_big_quiet_on;refine qS (.slice (some (aD pb po)) ps.length cap) ?_;refine qS (.pointer (some (aD pb po))) ?_;go_big_quiet_want;refine⟨.agg #[.int .i64 lk,.int .u64 (ls:Int),.int .u64 (Gx:Int),.slice la lx.length Fx,.int .u64 (lz:Int),.int .u64 (LZ:Int)],fun x hx=>?_,?_⟩
   ·have e0:=MI hx c0 c1 c2 c3 c4 c5;go_simp
   simp only[pU];go_big_quiet_on;go_big_quiet_want;refine⟨.bool false,fun x hx=>?_,?_⟩
   ·have hC:=QH hx (yS.o x hx);go_simp
   simp only[pU];go_big_quiet_on;refine qS (.bool false) ?_;go_big_quiet_want;refine⟨.bool false,fun x hx=>?_,?_⟩
   ·go_simp
   simp only[pU];go_big_quiet_on;go_big_quiet_skip
   try simp only[pU]
   iterate 7 (go_big_quiet_skip; try simp only[pU])
   refine qS (.bool false) ?_;refine qS (.bool false) ?_;refine Xv ?_;intro wE mM;have jk:=Zh (aA HC.o mM);clear mM;go_wp2;go_ret;exact⟨Qg HV.o.symm,jk.o⟩
  | true =>
   have HV:Hid (RES=SB):=by show _=_; rw[kJ.o]; rfl
   clear kJ;go_enter Tryz.func130,Tryz.ntmps130;go_upto_region 18 with fail;clear hw1 hw2;refine QG (by kernel_rfl) (by kernel_rfl) ?_;refine qS (.pointer (some (aD w.heap.size 0))) ?_;refine qS (.pointer (some (aD w.heap.size 2))) ?_;refine qC (.bool true) dH ?_;refine qS (.bool true) ?_;go_big_quiet_want;refine⟨.agg #[v0,v1,.bool true,.slice qa qk.length qcp,v4,v5,v6,v7,v8,v9,v10,v11,v12],fun x hx=>?_,?_⟩
   ·have e0:=lI hx dJ dY dH dW dZ eU eH gy fV fZ dz dE dA;go_simp
   simp only[pU];go_big_quiet_on;refine qS (.slice (some (aD pb po)) ps.length cap) ?_;refine qS (.pointer (some (aD pb po))) ?_;go_big_quiet_want;refine⟨.agg #[.int .i64 lk,.int .u64 (ls:Int),.int .u64 (Gx:Int),.slice la lx.length Fx,.int .u64 (lz:Int),.int .u64 (LZ:Int)],fun x hx=>?_,?_⟩
   ·have e0:=MI hx c0 c1 c2 c3 c4 c5;go_simp
   simp only[pU];go_big_quiet_on;go_big_quiet_want;refine⟨.bool true,fun x hx=>?_,?_⟩
   ·have hC:=QH hx (yS.o x hx);go_simp
   simp only[pU];go_big_quiet_on;refine qS (.bool true) ?_;refine qS (.bool true) ?_;refine qS (.slice (some (aD pb po)) ps.length cap) ?_;refine qS (.pointer (some (aD pb po))) ?_;refine qS (.pointer (some (aD pb (po+3)))) ?_;refine qC (.slice la lx.length Fx) c3 ?_;refine qS (.pointer (some (aD w.heap.size 0))) ?_;refine qS (.pointer (some (aD w.heap.size 3))) ?_;refine qC (.slice qa qk.length qcp) dW ?_;go_big_quiet_want;refine⟨.bool SB,fun x hx=>?_,?_⟩
   ·have hC:=QH hx (MZ.o x hx);go_simp
   simp only[pU];go_big_quiet_on;refine qS (.bool SB) ?_;refine qS (.bool SB) ?_;refine Xv ?_;intro wE mM;have jk:=Zh (aA HC.o mM);clear mM;go_wp2;go_ret;exact⟨Qg HV.o.symm,jk.o⟩
theorem aey(f:au)(ts:List af)(q:ae)(n:ai)(ao:Option Addr)(cap:Nat)(ps:List az)(w:World)(ok:Ok ts q)(hf:f.At ts q w)(hcl:n.cl.At w)(hco:n.co.At w)(hcap:n.co.xs.length<=n.co.cap)(hp:PartsAt w ao ps)(hk:n.kind=9)(hl:ps.length=arity n.kind) :
  Cb 130 #[.agg (f.cells ts q),.agg n.cells,.slice ao ps.length cap] w (.bool (cZ ts q n (ps.getD 0 aT).d (ps.getD 1 aT).d)):=by
 obtain⟨v0,v1,v2,v3,v4,v5,v6,v7,v8,v9,v10,v11,v12,bB,hv0,hv1,hv2,hv3,hv4,hv5,hv6,-⟩:=Xu f ts q;have om:n.cells=#[.int .i64 n.kind,.int .i64 n.l,.int .i64 n.r,.int .i64 n.source,n.cl.val,.int .i64 n.key,n.co.val]:=rfl;obtain⟨w1,hw1,hk1,hg1⟩:=aU w ((f.cells ts q)) 90;obtain⟨w2,hw2,hk2,hg2⟩:=aU w1 n.cells 58;have hc1:=hk2;have hc0:=aA hk1 hc1;have iq:=hg1.of (hc1.block _ hg1.lt);have kI:=hg2;obtain⟨jJ,lJ,lK,mZ,kr,ng,ni⟩:=kI.k7;obtain⟨dJ,dY,dH,dW,dZ,eU,eH,gy,fV,fZ,dz,dE,dA⟩:=iq.k13 (by rw[bB]; rfl);have hpw:=hp.1;have hlk:ps.length=1:=by rw[hl,hk]; rfl
 have HC:=Zh hc0;obtain⟨RES,cK⟩:∃ R,R=cZ ts q n (ps.getD 0 aT).d (ps.getD 1 aT).d:=⟨_,rfl⟩
 rw[<- cK];unfold cZ at cK;rw[Qz (by rw[hk]; decide),Qz (by rw[hk]; decide),Qz (by rw[hk]; decide),Qz (by rw[hk]; decide),Qz (by rw[hk]; decide),Qz (by rw[hk]; decide),Qz (by rw[hk]; decide),Qz (by rw[hk]; decide),Qy hk]at cK;have hl0:0<ps.length:=by omega
 obtain⟨⟨pb,po,rfl,c0,c1,c2,c3,c4,c5⟩,hLo⟩:=(Xb hc0 hp).2 0 hl0;rw[QP,Zf]at c0 c1 c2 c3 c4 c5;generalize ps.getD 0 aT=L at *;generalize ps.getD 1 aT=R at *;have yS:Hid (∀ x,Bw w2 x->Cb 204 #[.agg (f.cells ts q),.agg L.cells] x (.bool (jU q L.d))):=fun x hx=>su f ts q L x
 rw[bB]at yS;rw[hv2]at dH yS bB;have cK:=cK;generalize jU q L.d=RB at *;generalize q.group=gr at *;have kJ:=Zh cK;rw[bB,om];rw[bB]at hw1;rw[om]at hw2;clear cK hg1 hg2 iq kI hk1 hk2 hc0 hc1 hlk hl;clear hf hcl hco hcap hp ok bB om hv0 hv1 hv2 hv3 hv4 hv5 hv6;obtain⟨nk,nl,nr,ns,⟨ca,cc,cl⟩,key,⟨da,dc,co⟩⟩:=n;simp only at hk;subst hk;obtain⟨lk,ls,Gx,⟨la,Fx,lx⟩,lz,LZ⟩:=L;simp only[az.cells,ai.cells,ah.val]at *
 cases gr with
 | true =>
  have HV:Hid (RES=false):=by show _=_; rw[kJ.o]; rfl
  clear kJ;go_enter Tryz.func130,Tryz.ntmps130;go_upto_region 20 with fail;clear hw1 hw2;refine QG (by kernel_rfl) (by kernel_rfl) ?_;refine qS (.pointer (some (aD w.heap.size 0))) ?_;refine qS (.pointer (some (aD w.heap.size 2))) ?_;refine qC (.bool true) dH ?_;refine qS (.bool false) ?_;go_big_quiet_want;refine⟨.bool false,fun x hx=>?_,?_⟩
  ·go_simp
  simp only[pU];go_big_quiet_on;go_big_quiet_skip
  try simp only[pU]
  iterate 4 (go_big_quiet_skip; try simp only[pU])
  refine qS (.bool false) ?_;refine qS (.bool false) ?_;refine Xv ?_;intro wE mM;have jk:=Zh (aA HC.o mM);clear mM;go_wp2;go_ret;exact⟨Qg HV.o.symm,jk.o⟩
 | false =>
  have HV:Hid (RES=RB):=by show _=_; rw[kJ.o]; rfl
  clear kJ;go_enter Tryz.func130,Tryz.ntmps130;go_upto_region 20 with fail;clear hw1 hw2;refine QG (by kernel_rfl) (by kernel_rfl) ?_;refine qS (.pointer (some (aD w.heap.size 0))) ?_;refine qS (.pointer (some (aD w.heap.size 2))) ?_;refine qC (.bool false) dH ?_;refine qS (.bool true) ?_;refine qS (.bool true) ?_;go_big_quiet_want;refine⟨.agg #[v0,v1,.bool false,v3,v4,v5,v6,v7,v8,v9,v10,v11,v12],fun x hx=>?_,?_⟩
  ·have e0:=lI hx dJ dY dH dW dZ eU eH gy fV fZ dz dE dA;go_simp
  simp only[pU];go_big_quiet_on;refine qS (.slice (some (aD pb po)) ps.length cap) ?_;refine qS (.pointer (some (aD pb po))) ?_;go_big_quiet_want;refine⟨.agg #[.int .i64 lk,.int .u64 (ls:Int),.int .u64 (Gx:Int),.slice la lx.length Fx,.int .u64 (lz:Int),.int .u64 (LZ:Int)],fun x hx=>?_,?_⟩
  ·have e0:=MI hx c0 c1 c2 c3 c4 c5;go_simp
  simp only[pU];go_big_quiet_on;go_big_quiet_want;refine⟨.bool RB,fun x hx=>?_,?_⟩
  ·have hC:=QH hx (yS.o x hx);go_simp
  simp only[pU];go_big_quiet_on;refine qS (.bool RB) ?_;refine qS (.bool RB) ?_;refine Xv ?_;intro wE mM;have jk:=Zh (aA HC.o mM);clear mM;go_wp2;go_ret;exact⟨Qg HV.o.symm,jk.o⟩
theorem aba(f:au)(ts:List af)(q:ae)(n:ai)(ao:Option Addr)(cap:Nat)(ps:List az)(w:World)(ok:Ok ts q)(hf:f.At ts q w)(hcl:n.cl.At w)(hco:n.co.At w)(hcap:n.co.xs.length<=n.co.cap)(hp:PartsAt w ao ps)(hk:n.kind=10)(hl:ps.length=arity n.kind) :
  Cb 130 #[.agg (f.cells ts q),.agg n.cells,.slice ao ps.length cap] w (.bool (cZ ts q n (ps.getD 0 aT).d (ps.getD 1 aT).d)):=by
 obtain⟨v0,v1,v2,v3,v4,v5,v6,v7,v8,v9,v10,v11,v12,bB,hv0,hv1,hv2,hv3,hv4,hv5,hv6,-⟩:=Xu f ts q;have om:n.cells=#[.int .i64 n.kind,.int .i64 n.l,.int .i64 n.r,.int .i64 n.source,n.cl.val,.int .i64 n.key,n.co.val]:=rfl;obtain⟨w1,hw1,hk1,hg1⟩:=aU w ((f.cells ts q)) 90;obtain⟨w2,hw2,hk2,hg2⟩:=aU w1 n.cells 58;have hc1:=hk2;have hc0:=aA hk1 hc1;have iq:=hg1.of (hc1.block _ hg1.lt);have kI:=hg2;obtain⟨jJ,lJ,lK,mZ,kr,ng,ni⟩:=kI.k7;obtain⟨dJ,dY,dH,dW,dZ,eU,eH,gy,fV,fZ,dz,dE,dA⟩:=iq.k13 (by rw[bB]; rfl);have hpw:=hp.1;have hlk:ps.length=1:=by rw[hl,hk]; rfl
 have HC:=Zh hc0;obtain⟨RES,cK⟩:∃ R,R=cZ ts q n (ps.getD 0 aT).d (ps.getD 1 aT).d:=⟨_,rfl⟩
 rw[<- cK];unfold cZ at cK;rw[Qz (by rw[hk]; decide),Qz (by rw[hk]; decide),Qz (by rw[hk]; decide),Qz (by rw[hk]; decide),Qz (by rw[hk]; decide),Qz (by rw[hk]; decide),Qz (by rw[hk]; decide),Qz (by rw[hk]; decide),Qz (by rw[hk]; decide)]at cK;have hl0:0<ps.length:=by omega
 obtain⟨⟨pb,po,rfl,c0,c1,c2,c3,c4,c5⟩,hLo⟩:=(Xb hc0 hp).2 0 hl0;rw[QP,Zf]at c0 c1 c2 c3 c4 c5;generalize ps.getD 0 aT=L at *;generalize ps.getD 1 aT=R at *;have cK:=cK;rw[hv6]at eH;have kJ:=Zh cK;rw[bB,om];rw[bB]at hw1;rw[om]at hw2;clear cK hg1 hg2 iq kI hk1 hk2 hc0 hc1 hlk hl;clear hf hcl hco hcap hp ok bB om hv0 hv1 hv2 hv3 hv4 hv5 hv6;obtain⟨nk,nl,nr,ns,⟨ca,cc,cl⟩,key,⟨da,dc,co⟩⟩:=n;simp only at hk;subst hk;simp only[az.cells,ai.cells,ah.val]at *;generalize q.ord.xs.length=N at *;by_cases z:0<N
 ·have HV:Hid (RES=true):=by show _=_; rw[kJ.o,QD z]
  clear kJ;go_enter Tryz.func130,Tryz.ntmps130;go_wp2;go_ret;exact⟨Qg HV.o.symm,HC.o⟩
 ·have HV:Hid (RES=false):=by show _=_; rw[kJ.o,Ql z]
  have z0:N=0:=by omega
  clear kJ;go_enter Tryz.func130,Tryz.ntmps130;go_wp2;go_ret;exact⟨Qg HV.o.symm,HC.o⟩
theorem abb(f:au)(ts:List af)(q:ae)(n:ai)(ao:Option Addr)(cap:Nat)(ps:List az)(w:World)(ok:Ok ts q)(hf:f.At ts q w)(hcl:n.cl.At w)(hco:n.co.At w)(hcap:n.co.xs.length<=n.co.cap)(hp:PartsAt w ao ps)(hk1:1<=n.kind)(hk10:n.kind<=10)(hl:ps.length=arity n.kind) :
  Cb 130 #[.agg (f.cells ts q),.agg n.cells,.slice ao ps.length cap] w (.bool (cZ ts q n (ps.getD 0 aT).d (ps.getD 1 aT).d)):=by
 rcases (by omega:n.kind=1∨n.kind=2∨n.kind=3∨n.kind=4∨n.kind=5∨n.kind=6∨n.kind=7∨n.kind=8∨n.kind=9∨n.kind=10) with h | h | h | h | h | h | h | h | h | h
 ·exact aej f ts q n ao cap ps w ok hf hcl hco hcap hp h hl
 ·exact aek f ts q n ao cap ps w ok hf hcl hco hcap hp h hl
 ·exact ael f ts q n ao cap ps w ok hf hcl hco hcap hp h hl
 ·exact aet f ts q n ao cap ps w ok hf hcl hco hcap hp h hl
 ·exact aeu f ts q n ao cap ps w ok hf hcl hco hcap hp h hl
 ·exact aev f ts q n ao cap ps w ok hf hcl hco hcap hp h hl
 ·exact aew f ts q n ao cap ps w ok hf hcl hco hcap hp h hl
 ·exact aex f ts q n ao cap ps w ok hf hcl hco hcap hp h hl
 ·exact aey f ts q n ao cap ps w ok hf hcl hco hcap hp h hl
 ·exact aba f ts q n ao cap ps w ok hf hcl hco hcap hp h hl
