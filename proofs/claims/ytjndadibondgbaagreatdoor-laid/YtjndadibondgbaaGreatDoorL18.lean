import Derived.Test.YtjndadibondgbaaGreatDoorL17
set_option linter.all false
set_option maxRecDepth 100000
set_option maxHeartbeats 16000000
namespace Go.Proofs.Zz
open Go.RowKit Go.Shelf
theorem agA(f:aS)(ts:List af)(q:ae)(n:ah)(ao:Option Addr)(cap:Nat)(ps:List aB)(w:World)(ok:Ok ts q)(hf:f.At ts q w)(hcl:n.cl.At w)(hco:n.co.At w)(hcap:n.co.xs.length<=n.co.cap)(hp:PartsAt w ao ps)(hk:n.kind=4)(hl:ps.length=arity n.kind) :
  Cb 60 #[.agg (f.cells ts q),.agg n.cells,.slice ao ps.length cap] w (.bool (bJ ts q n (ps.getD 0 aT).d (ps.getD 1 aT).d)):=by
 obtain⟨v0,v1,v2,v3,v4,v5,v6,v7,v8,v9,u,v,y,U,bn,bq,bu,bz,bB,bC,bE,-⟩:=Ju f ts q;have jP:n.cells=#[.int .i64 n.kind,.int .i64 n.l,.int .i64 n.r,.int .i64 n.source,n.cl.val,.int .i64 n.key,n.co.val]:=rfl;obtain⟨w1,z,aO,A⟩:=aR w ((f.cells ts q)) 70;obtain⟨w2,B,aP,aQ⟩:=aR w1 n.cells 36;have s:=aP;have e:=aC aO s;have cK:=A.of (s.block _ A.lt);have ig:=aQ;obtain⟨V,W,X,Y,Z,iG,ik⟩:=ig.k7;obtain⟨bD,bN,bA,bG,bO,bT,bQ,dF,dD,dE,aU,aZ,aV⟩:=cK.k13 (by rw[U]; rfl);have bH:=hp.1;have aY:ps.length=2:=by rw[hl,hk]; rfl
 have HC:=Zh e;obtain⟨C,k⟩:∃ R,R=bJ ts q n (ps.getD 0 aT).d (ps.getD 1 aT).d:=⟨_,rfl⟩
 rw[<- k];unfold bJ at k;rw[Qv (by rw[hk]; decide),Qv (by rw[hk]; decide),Qv (by rw[hk]; decide),Qu hk]at k;have bf:0<ps.length:=by omega
 obtain⟨⟨g,po,rfl,D,E,F,G,H,I⟩,aW⟩:=(X8 e hp).2 0 bf;rw[QI,Xg]at D E F G H I;have bg:1<ps.length:=by omega
 have bI:(1:Int)<(ps.length:Int):=by omega
 obtain⟨⟨bK,bL,e',J,K,M,N,O,P⟩,aX⟩:=(X8 e hp).2 1 bg
 cases e'
 rw[Z9]at J K M N O P;generalize ps.getD 0 aT=L at *;generalize ps.getD 1 aT=R at *;have t:Hid (∀ x,Bw w2 x->Cb 91 #[.agg (f.cells ts q),.agg n.cells,.agg L.cells,.agg R.cells] x (.bool (jJ ts q n L.sources R.sources))):=fun x b=>sw f ts q n L R x ok (hf.below (aC e b)) (Qt (aC e b) hcl) aW.sources aX.sources
 rw[U]at t;have j:Hid (∀ x,Bw w2 x->Cb 92 #[.agg (f.cells ts q),.agg n.cells,.agg L.cells,.agg R.cells] x (.tuple #[.int .i64 (lH ts q n L.sources R.sources).1,.int .i64 (lH ts q n L.sources R.sources).2.1,.bool (lH ts q n L.sources R.sources).2.2])):=fun x b=>oz f ts q n L R x ok (hf.below (aC e b)) (Qt (aC e b) hcl) aW.sources aX.sources
 rw[U]at j;have k:C=((lH ts q n L.sources R.sources).2.2&&jJ ts q n L.sources R.sources):=k;generalize jJ ts q n L.sources R.sources=RB at *;generalize lH ts q n L.sources R.sources=KP at *;obtain⟨m,p,bF⟩:=KP;simp only at j k;have lJ:=Zh k;rw[U,jP];rw[U]at z;rw[jP]at B;clear k A aQ cK ig aO aP e s aY hl;clear hf hcl hco hcap hp ok U jP bn bq bu bz bB bC bE;obtain⟨nk,nl,nr,ns,⟨ca,cc,cl⟩,key,⟨da,dc,co⟩⟩:=n;simp only at hk;subst hk;obtain⟨lk,ls,Gv,⟨la,JR,lx⟩,lz,LA⟩:=L;obtain⟨rk,rs,Q,⟨ra,S,rx⟩,rz,T⟩:=R;simp only[aB.cells,ah.cells,aa.val]at *
 cases bF with
 | true =>
  have HV:Hid (C=RB):=by show _=_; rw[lJ.o]; rfl
  clear lJ;go_enter Tryz.func60,Tryz.ntmps60;go_upto_region 9 with fail;clear z B;refine QA (by kernel_rfl) (by kernel_rfl) ?_;go_big_quiet_want;refine⟨.agg #[v0,v1,v2,v3,v4,v5,v6,v7,v8,v9,u,v,y],fun x b=>?_,?_⟩
  ·have i:=mi b bD bN bA bG bO bT bQ dF dD dE aU aZ aV;go_simp
  simp only[pU];go_big_quiet_on;go_big_quiet_want;refine⟨.agg #[.int .i64 4,.int .i64 nl,.int .i64 nr,.int .i64 ns,.slice ca cl.length cc,.int .i64 key,.slice da co.length dc],fun x b=>?_,?_⟩
  ·have i:=J7 b V W X Y Z iG ik;go_simp
  simp only[pU];go_big_quiet_on;refine qS (.slice (some (aD g po)) ps.length cap) ?_;refine qS (.pointer (some (aD g po))) ?_;go_big_quiet_want;refine⟨.agg #[.int .i64 lk,.int .u64 (ls:Int),.int .u64 (Gv:Int),.slice la lx.length JR,.int .u64 (lz:Int),.int .u64 (LA:Int)],fun x b=>?_,?_⟩
  ·have i:=Rb b D E F G H I;go_simp
  simp only[pU];go_big_quiet_on;refine qS (.slice (some (aD g po)) ps.length cap) ?_;refine qS (.pointer (some (aD g (po+6)))) ?_;go_big_quiet_want;refine⟨.agg #[.int .i64 rk,.int .u64 (rs:Int),.int .u64 (Q:Int),.slice ra rx.length S,.int .u64 (rz:Int),.int .u64 (T:Int)],fun x b=>?_,?_⟩
  ·have i:=Rb b J K M N O P;go_simp
  simp only[pU];go_big_quiet_on;go_big_quiet_want;refine⟨.tuple #[.int .i64 m,.int .i64 p,.bool true],fun x b=>?_,?_⟩
  ·have hC:=QC b (j.o x b);go_simp
  simp only[pU];go_big_quiet_on;refine qS (.tuple #[.int .i64 m,.int .i64 p,.bool true]) ?_;refine qS (.int .i64 m) ?_;refine qS (.int .i64 p) ?_;refine qS (.bool true) ?_;refine qS (.int .i64 m) ?_;refine qS (.int .i64 p) ?_;refine qS (.bool true) ?_;refine XY ?_;intro w5 a;have Gi:=cB a bD;have Gj:=cB a bN;have Gl:=cB a bA;have Gm:=cB a bG;have Gn:=cB a bO;have Gp:=cB a bT;have Gq:=cB a bQ;have Gs:=cB a dF;have Gt:=cB a dD;have Gu:=cB a dE;have xg:=cB a aU;have xh:=cB a aZ;have xq:=cB a aV;have ag:=cB a V;have ai:=cB a W;have aj:=cB a X;have ak:=cB a Y;have au:=cB a Z;have av:=cB a iG;have ax:=cB a ik;have ay:=cB a D;have az:=cB a J;have aA:=cB a E;have aF:=cB a K;have aG:=cB a F;have aH:=cB a M;have aI:=cB a G;have aJ:=cB a N;have aK:=cB a H;have aL:=cB a O;have aM:=cB a I;have aN:=cB a P;have lD:=hd a;have Yj:=Zh (aC HC.o a);clear a bD bN bA bG bO bT bQ dF dD dE aU aZ aV V W X Y Z iG ik D E F G H I J K M N O P;go_wp2_with fail;refine QA (by kernel_rfl) (by kernel_rfl) ?_;refine qS (.bool true) ?_;refine qS (.bool true) ?_;go_big_quiet_want;refine⟨.agg #[v0,v1,v2,v3,v4,v5,v6,v7,v8,v9,u,v,y],fun x b=>?_,?_⟩
  ·have i:=mi b Gi Gj Gl Gm Gn Gp Gq Gs Gt Gu xg xh xq;go_simp
  simp only[pU];go_big_quiet_on;go_big_quiet_want;refine⟨.agg #[.int .i64 4,.int .i64 nl,.int .i64 nr,.int .i64 ns,.slice ca cl.length cc,.int .i64 key,.slice da co.length dc],fun x b=>?_,?_⟩
  ·have i:=J7 b ag ai aj ak au av ax;go_simp
  simp only[pU];go_big_quiet_on;refine qS (.slice (some (aD g po)) ps.length cap) ?_;refine qS (.pointer (some (aD g po))) ?_;go_big_quiet_want;refine⟨.agg #[.int .i64 lk,.int .u64 (ls:Int),.int .u64 (Gv:Int),.slice la lx.length JR,.int .u64 (lz:Int),.int .u64 (LA:Int)],fun x b=>?_,?_⟩
  ·have i:=Rb b ay aA aG aI aK aM;go_simp
  simp only[pU];go_big_quiet_on;refine qS (.slice (some (aD g po)) ps.length cap) ?_;refine qS (.pointer (some (aD g (po+6)))) ?_;go_big_quiet_want;refine⟨.agg #[.int .i64 rk,.int .u64 (rs:Int),.int .u64 (Q:Int),.slice ra rx.length S,.int .u64 (rz:Int),.int .u64 (T:Int)],fun x b=>?_,?_⟩
  ·have i:=Rb b az aF aH aJ aL aN;go_simp
  simp only[pU];go_big_quiet_on;go_big_quiet_want;refine⟨.bool RB,fun x b=>?_,?_⟩
  ·have hC:=QC b (t.o x (aC lD.o b));go_simp
  simp only[pU];go_big_quiet_on;refine qS (.bool RB) ?_;refine qS (.bool RB) ?_;refine XY ?_;intro wE lG;have mU:=Zh (aC Yj.o lG);clear lG;go_wp2;go_ret;exact⟨Qb HV.o.symm,mU.o⟩
 | false =>
  have HV:Hid (C=false):=by show _=_; rw[lJ.o]; rfl
  clear lJ t;go_enter Tryz.func60,Tryz.ntmps60;go_upto_region 9 with fail;clear z B;refine QA (by kernel_rfl) (by kernel_rfl) ?_;go_big_quiet_want;refine⟨.agg #[v0,v1,v2,v3,v4,v5,v6,v7,v8,v9,u,v,y],fun x b=>?_,?_⟩
  ·have i:=mi b bD bN bA bG bO bT bQ dF dD dE aU aZ aV;go_simp
  simp only[pU];go_big_quiet_on;go_big_quiet_want;refine⟨.agg #[.int .i64 4,.int .i64 nl,.int .i64 nr,.int .i64 ns,.slice ca cl.length cc,.int .i64 key,.slice da co.length dc],fun x b=>?_,?_⟩
  ·have i:=J7 b V W X Y Z iG ik;go_simp
  simp only[pU];go_big_quiet_on;refine qS (.slice (some (aD g po)) ps.length cap) ?_;refine qS (.pointer (some (aD g po))) ?_;go_big_quiet_want;refine⟨.agg #[.int .i64 lk,.int .u64 (ls:Int),.int .u64 (Gv:Int),.slice la lx.length JR,.int .u64 (lz:Int),.int .u64 (LA:Int)],fun x b=>?_,?_⟩
  ·have i:=Rb b D E F G H I;go_simp
  simp only[pU];go_big_quiet_on;refine qS (.slice (some (aD g po)) ps.length cap) ?_;refine qS (.pointer (some (aD g (po+6)))) ?_;go_big_quiet_want;refine⟨.agg #[.int .i64 rk,.int .u64 (rs:Int),.int .u64 (Q:Int),.slice ra rx.length S,.int .u64 (rz:Int),.int .u64 (T:Int)],fun x b=>?_,?_⟩
  ·have i:=Rb b J K M N O P;go_simp
  simp only[pU];go_big_quiet_on;go_big_quiet_want;refine⟨.tuple #[.int .i64 m,.int .i64 p,.bool false],fun x b=>?_,?_⟩
  ·have hC:=QC b (j.o x b);go_simp
  simp only[pU];go_big_quiet_on;refine qS (.tuple #[.int .i64 m,.int .i64 p,.bool false]) ?_;refine qS (.int .i64 m) ?_;refine qS (.int .i64 p) ?_;refine qS (.bool false) ?_;refine qS (.int .i64 m) ?_;refine qS (.int .i64 p) ?_;refine qS (.bool false) ?_;refine XY ?_;intro w5 a;have Gi:=cB a bD;have Gj:=cB a bN;have Gl:=cB a bA;have Gm:=cB a bG;have Gn:=cB a bO;have Gp:=cB a bT;have Gq:=cB a bQ;have Gs:=cB a dF;have Gt:=cB a dD;have Gu:=cB a dE;have xg:=cB a aU;have xh:=cB a aZ;have xq:=cB a aV;have ag:=cB a V;have ai:=cB a W;have aj:=cB a X;have ak:=cB a Y;have au:=cB a Z;have av:=cB a iG;have ax:=cB a ik;have ay:=cB a D;have az:=cB a J;have aA:=cB a E;have aF:=cB a K;have aG:=cB a F;have aH:=cB a M;have aI:=cB a G;have aJ:=cB a N;have aK:=cB a H;have aL:=cB a O;have aM:=cB a I;have aN:=cB a P;have lD:=hd a;have Yj:=Zh (aC HC.o a);clear a bD bN bA bG bO bT bQ dF dD dE aU aZ aV V W X Y Z iG ik D E F G H I J K M N O P;go_wp2_with fail;refine QA (by kernel_rfl) (by kernel_rfl) ?_;refine qS (.bool false) ?_;go_big_quiet_want;refine⟨.bool false,fun x b=>?_,?_⟩
  ·go_simp
  simp only[pU];go_big_quiet_on;go_big_quiet_skip
  try simp only[pU]
  iterate 8 (go_big_quiet_skip; try simp only[pU])
  refine qS (.bool false) ?_;refine qS (.bool false) ?_;refine XY ?_;intro wE lG;have mU:=Zh (aC Yj.o lG);clear lG;go_wp2;go_ret;exact⟨Qb HV.o.symm,mU.o⟩
theorem agB(f:aS)(ts:List af)(q:ae)(n:ah)(ao:Option Addr)(cap:Nat)(ps:List aB)(w:World)(ok:Ok ts q)(hf:f.At ts q w)(hcl:n.cl.At w)(hco:n.co.At w)(hcap:n.co.xs.length<=n.co.cap)(hp:PartsAt w ao ps)(hk:n.kind=5)(hl:ps.length=arity n.kind) :
  Cb 60 #[.agg (f.cells ts q),.agg n.cells,.slice ao ps.length cap] w (.bool (bJ ts q n (ps.getD 0 aT).d (ps.getD 1 aT).d)):=by
 obtain⟨v0,v1,v2,v3,v4,v5,v6,v7,v8,v9,D,E,F,k,G,H,I,J,K,M,N,-⟩:=Ju f ts q;have y:n.cells=#[.int .i64 n.kind,.int .i64 n.l,.int .i64 n.r,.int .i64 n.source,n.cl.val,.int .i64 n.key,n.co.val]:=rfl;obtain⟨w1,m,p,i⟩:=aR w ((f.cells ts q)) 70;obtain⟨w2,s,t,u⟩:=aR w1 n.cells 36;have e:=t;have b:=aC p e;have V:=i.of (e.block _ i.lt);have W:=u;obtain⟨eT,fK,gy,gV,fM,iG,ik⟩:=W.k7;obtain⟨bD,bN,bA,bG,bO,bT,bQ,dF,dD,dE,aU,aZ,aV⟩:=V.k13 (by rw[k]; rfl);have ag:=hp.1;have z:ps.length=2:=by rw[hl,hk]; rfl
 have HC:=Zh b;obtain⟨O,g⟩:∃ R,R=bJ ts q n (ps.getD 0 aT).d (ps.getD 1 aT).d:=⟨_,rfl⟩
 rw[<- g];unfold bJ at g;rw[Qv (by rw[hk]; decide),Qv (by rw[hk]; decide),Qv (by rw[hk]; decide),Qv (by rw[hk]; decide),Qu hk]at g;have A:0<ps.length:=by omega
 obtain⟨⟨v,po,rfl,Y,Z,c2,c3,c4,c5⟩,P⟩:=(X8 b hp).2 0 A;rw[QI,Xg]at Y Z c2 c3 c4 c5;have B:1<ps.length:=by omega
 have ai:(1:Int)<(ps.length:Int):=by omega
 obtain⟨⟨aj,ak,e',d0,d1,d2,d3,d4,d5⟩,Q⟩:=(X8 b hp).2 1 B
 cases e'
 rw[Z9]at d0 d1 d2 d3 d4 d5;generalize ps.getD 0 aT=L at *;generalize ps.getD 1 aT=R at *;have j:Hid (∀ x,Bw w2 x->Cb 93 #[.agg (f.cells ts q),.agg n.cells,.agg L.cells,.agg R.cells] x (.bool (Bb ts q n L.d R.d))):=fun x a=>GK f ts q n L R x ok (hf.below (aC b a)) (Qt (aC b a) hcl) (P.below a) (Q.below a)
 rw[k]at j;have g:O=Bb ts q n L.d R.d:=g;generalize Bb ts q n L.d R.d=RB at *;have X:=Zh g;rw[k,y];rw[k]at m;rw[y]at s;clear g i u V W p t b e z hl;clear hf hcl hco hcap hp ok k y G H I J K M N;obtain⟨nk,nl,nr,ns,⟨ca,cc,cl⟩,key,⟨da,dc,co⟩⟩:=n;simp only at hk;subst hk;obtain⟨lk,ls,Gv,⟨la,JR,lx⟩,lz,LA⟩:=L;obtain⟨rk,rs,S,⟨ra,T,rx⟩,rz,U⟩:=R;simp only[aB.cells,ah.cells,aa.val]at *;have HV:=Zh X.o;clear X;go_enter Tryz.func60,Tryz.ntmps60;go_upto_region 12 with fail;clear m s;refine QA (by kernel_rfl) (by kernel_rfl) ?_;go_big_quiet_want;refine⟨.agg #[v0,v1,v2,v3,v4,v5,v6,v7,v8,v9,D,E,F],fun x a=>?_,?_⟩
 ·have C:=mi a bD bN bA bG bO bT bQ dF dD dE aU aZ aV;go_simp
 simp only[pU];go_big_quiet_on;go_big_quiet_want;refine⟨.agg #[.int .i64 5,.int .i64 nl,.int .i64 nr,.int .i64 ns,.slice ca cl.length cc,.int .i64 key,.slice da co.length dc],fun x a=>?_,?_⟩
 ·have C:=J7 a eT fK gy gV fM iG ik;go_simp
 simp only[pU];go_big_quiet_on;refine qS (.slice (some (aD v po)) ps.length cap) ?_;refine qS (.pointer (some (aD v po))) ?_;go_big_quiet_want;refine⟨.agg #[.int .i64 lk,.int .u64 (ls:Int),.int .u64 (Gv:Int),.slice la lx.length JR,.int .u64 (lz:Int),.int .u64 (LA:Int)],fun x a=>?_,?_⟩
 ·have C:=Rb a Y Z c2 c3 c4 c5;go_simp
 simp only[pU];go_big_quiet_on;refine qS (.slice (some (aD v po)) ps.length cap) ?_;refine qS (.pointer (some (aD v (po+6)))) ?_;go_big_quiet_want;refine⟨.agg #[.int .i64 rk,.int .u64 (rs:Int),.int .u64 (S:Int),.slice ra rx.length T,.int .u64 (rz:Int),.int .u64 (U:Int)],fun x a=>?_,?_⟩
 ·have C:=Rb a d0 d1 d2 d3 d4 d5;go_simp
 simp only[pU];go_big_quiet_on;go_big_quiet_want;refine⟨.bool RB,fun x a=>?_,?_⟩
 ·have hC:=QC a (j.o x a);go_simp
 simp only[pU];go_big_quiet_on;refine qS (.bool RB) ?_;refine XY ?_;intro wE lG;have mU:=Zh (aC HC.o lG);clear lG;go_wp2;go_ret;exact⟨Qb HV.o.symm,mU.o⟩
def E8(ts:List af)(src cols:List Int)(s i:Nat):Bool:=
 decide (0<=cols.getD i 0)&&decide (cols.getD i 0<ai ts src) && !decide (cols.getD i 0∈cols.take i)&&dG s (2 ^ aj ts src (cols.getD i 0))
theorem adM(ts:List af)(src cols:List Int)(s:Nat):ug ts src cols s=(decide (0<cols.length)&&decide ((cols.length:Int)<=ai ts src)&&(List.range cols.length).all (E8 ts src cols s)):=rfl
theorem Mc(f:aS)(ts:List af)(q:ae)(la:Option Addr)(lc:Nat)(l:List Int)(s:Nat)(w:World)(ok:Ok ts q)(hf:iQ w f.ca (fZ ts q))(hl:aI w la l)(hcap:l.length<=lc)(hs:s<18446744073709551616) :
  Cb 94 #[.agg (f.cells ts q),.slice la l.length lc,.int .u64 (s:Int)] w (.bool (ug ts q.src.xs l s)):=by
 obtain⟨v0,v1,v2,v3,v4,v5,v6,v7,v8,v9,az,aA,aB,Z,-,-,-,-,-,-,-,aa,-⟩:=Ju f ts q;obtain⟨w1,O,P,Q⟩:=aR w ((f.cells ts q)) 70;have v:=P;have cK:=Q;obtain⟨bD,bN,bA,bG,bO,bT,bQ,dF,dD,dE,aU,aZ,aV⟩:=cK.k13 (by rw[Z]; rfl);subst aa;have B:=AQ ok;have p:Hid (ug ts q.src.xs l s=(decide (0<l.length)&&decide (l.length<=(fZ ts q).length)&&(List.range l.length).all (E8 ts q.src.xs l s))):=by
  show _=_
  have hd:decide ((l.length:Int)<=((fZ ts q).length:Int))=decide (l.length<=(fZ ts q).length):=by rw[QD,QE,QE]; omega
  rw[adM,<- B,hd]
 have C:Hid (∀ i,E8 ts q.src.xs l s i=(decide (0<=l.getD i 0)&&decide (l.getD i 0<((fZ ts q).length:Int)) && !decide (l.getD i 0∈l.take i)&&dG s (2 ^ aj ts q.src.xs (l.getD i 0)))):=fun i=>by unfold E8; rw[B]
 have W:Hid (∀ x b c,Bw w1 x->x.cell? (aD b 0)=some (.int .i64 c)->0<=c->c<((fZ ts q).length:Int)->(Cb 87 #[.agg (f.cells ts q),.slice (some (aD b 0)) 1 1] x (.int .u64 ((2 ^ aj ts q.src.xs c:Nat):Int)))/\2 ^ aj ts q.src.xs c<18446744073709551616):=
  fun x b c hb h0 h1 h2=>⟨xe f ts q b c x ok (hf.below (aC v hb)) h0 (fun c' U=>by rw[Zw]at U; subst U; exact⟨h1,by omega⟩),Jg (n:=64) (by omega) (QT (Eu ok h1 (by omega)) ok.small)⟩
 have D:Hid (∀ x m,m<18446744073709551616->_):=fun x m hm=>rY s m hs hm x
 have Ve:Hid _:=Qt v hl;have ag:=hl.1;have ah:=hf.1;have H:=Zh v;rw[Z]at W O ⊢;generalize ug ts q.src.xs l s=SP at *;generalize E8 ts q.src.xs l s=SA at *;obtain⟨SN,R⟩:∃ SN:Int->Nat,∀ c,2 ^ aj ts q.src.xs c=SN c:=⟨_,fun _=>rfl⟩
 simp only[R]at C W;have I:=Zh C.o;have y:=Zh W.o;generalize fZ ts q=CS at *;clear R C W B Z Q cK P v hf hl ok hs;by_cases z0:l.length=0
 ·have r:Hid (SP=false):=by show _=_; rw[p.o,Qg (by omega)]; rfl
  have zb:((l.length:Int)==0)=true:=by rw[z0]; rfl
  clear p I y D z0;go_enter Tryz.func94,Tryz.ntmps94;go_wp2;go_ret;exact⟨Qb r.o.symm,H.o⟩
 have zb:((l.length:Int)==0)=false:=by rw[XU]; omega
 by_cases z1:CS.length<l.length
 ·have r:Hid (SP=false):=by show _=_; rw[p.o,Qg (show ¬ l.length<=CS.length by omega),Qi]; rfl
  have ai:(CS.length:Int)<(l.length:Int):=by omega
  clear p I y D z0;go_enter Tryz.func94,Tryz.ntmps94;go_wp2;go_ret;exact⟨Qb r.o.symm,H.o⟩
 have J:Hid (SP=(List.range l.length).all SA):=by show _=_; rw[p.o,Qy (by omega),Qy (by omega)]; rfl
 clear p z0;go_enter Tryz.func94,Tryz.ntmps94;go_wp2;clear O;go_loopw [22] (fun iv wr=>∃ k:Nat,k<=l.length/\iv=.int .i64 k/\Hid (∀ j,j<k->SA j=true)/\Bw w1 wr) (fun iv _=>l.length-(intOf iv).toNat)
 case atStart=>exact⟨0,Zf _,rfl,fun j hj=>absurd hj (by omega),Qr _ _⟩
 case round=>
  obtain⟨k,hk,rfl,X,a⟩:=hrel;by_cases F:k<l.length
  ·obtain⟨lb,lo,rfl,S⟩:=Qe Ve.o F;have ak:=cB a (S k F);have t:=Zh (I.o k);have d:Hid (SA k=false->SP=false):=fun e=>by
    rw[J.o,Qj];exact⟨k,Xm.2 F,by rw[e]; simp⟩
   have G:Hid (SA k=true->∀ j,j<k+1->SA j=true):=fun h j hj=>by
    rcases Ql j k with h' | h'
    ·exact X.o j h'
    ·obtain rfl:j=k:=by omega
     exact h
   have g:=zD (some (aD lb lo)) lc (l.take k) (l.getD k 0) wr (Qt a (aI.take Ve.o k));rw[XF,Nat.min_eq_left (by omega)]at g;have K:=Zh (aC H.o a);clear S X I;generalize l.take k=LT at *;generalize l.getD k 0=c at *;by_cases h1:c<0
   ·have r:=Zh (d.o (by rw[t.o,Qg (by omega)]; rfl));clear t d G g;go_wp2;go_ret;exact⟨Qb r.o.symm,K.o⟩
   have p7:=cB a dF;by_cases h2:(CS.length:Int)<=c
   ·have r:=Zh (d.o (by rw[t.o,Qg (show ¬ c<(CS.length:Int) by omega),Qi]; rfl));clear t d G g;go_wp2;go_ret;exact⟨Qb r.o.symm,K.o⟩
   clear p7;have q0:=cB a bD;have q1:=cB a bN;have q2:=cB a bA;have q3:=cB a bG;have q4:=cB a bO;have q5:=cB a bT;have q6:=cB a bQ;have q7:=cB a dF;have q8:=cB a dD;have q9:=cB a dE;have au:=cB a aU;have av:=cB a aZ;have ax:=cB a aV;by_cases V:c∈LT
   ·have r:=Zh (d.o (by rw[t.o,Qy V]; simp));rw[Qy V]at g;clear t d G V;go_wp2_with fail;refine Jj g ?_;clear g;rintro e w2 ⟨rfl,rfl⟩;go_wp2;go_ret;exact⟨Qb r.o.symm,K.o⟩
   rw[Qg V]at g t;obtain⟨wa,Y⟩:∃ x,wr.alloc (.cells #[.int .i64 c] 3)=x:=⟨_,rfl⟩
   have z:Bw wr wa:=by rw[<- Y]; exact bV _ _
   obtain⟨A,T⟩:=y.o wa wr.heap.size c (aC a z) (by rw[<- Y]; simp) (by omega) (by omega);have Cg:=Zh (aC a z);have ay:=Zh z;generalize SN c=m at *;have L:Hid (∀ x,_):=fun x=>D.o x m T
   have M:decide (0<=c)=true:=Qy (by omega);have N:decide (c<(CS.length:Int))=true:=Qy (by omega);rw[M,N]at t;generalize dG s m=CB at *;clear M N z T V
   cases CB with
   | true =>
    have HT:=Zh (G.o (by rw[t.o]; rfl));clear t d G;go_wp2_with fail;refine Jj g ?_;clear g;rintro e w2 ⟨rfl,rfl⟩;go_wp2_with fail;refine Jj A ?_;clear A Y;rintro e w3 ⟨rfl,u⟩;have E:=Zh (aC Cg.o u);clear u a;go_wp2_with fail;refine Jj (L.o _) ?_;rintro e w4 ⟨rfl,rfl⟩;go_wp2;go_roundw
    case rel=>exact⟨k+1,by omega,by go_num,HT.o,E.o⟩
    case measure=>simp[intOf]; omega
   | false =>
    have r:=Zh (d.o (by rw[t.o]; rfl));clear t d G;go_wp2_with fail;refine Jj g ?_;clear g;rintro e w2 ⟨rfl,rfl⟩;go_wp2_with fail;refine Jj A ?_;clear A Y;rintro e w3 ⟨rfl,u⟩;have E:=Zh (aC H.o (aC Cg.o u));clear u a;go_wp2_with fail;refine Jj (L.o _) ?_;rintro e w4 ⟨rfl,rfl⟩;go_wp2;go_ret;exact⟨Qb r.o.symm,E.o⟩
  ·have r:Hid (SP=true):=by
    show _=_
    rw[J.o,Qp];exact fun i hi=>X.o i (by have:=Xm.1 hi; omega)
   have K:=Zh (aC H.o a);clear X I y a;go_wp2;go_ret;exact⟨Qb r.o.symm,K.o⟩
theorem agC(f:aS)(ts:List af)(q:ae)(n:ah)(ao:Option Addr)(cap:Nat)(ps:List aB)(w:World)(ok:Ok ts q)(hf:f.At ts q w)(hcl:n.cl.At w)(hco:n.co.At w)(hcap:n.co.xs.length<=n.co.cap)(hp:PartsAt w ao ps)(hk:n.kind=6)(hl:ps.length=arity n.kind) :
  Cb 60 #[.agg (f.cells ts q),.agg n.cells,.slice ao ps.length cap] w (.bool (bJ ts q n (ps.getD 0 aT).d (ps.getD 1 aT).d)):=by
 obtain⟨v0,Z,v2,v3,v4,v5,v6,v7,v8,v9,A,B,C,k,D,E,F,G,H,I,J,-⟩:=Ju f ts q;have v:n.cells=#[.int .i64 n.kind,.int .i64 n.l,.int .i64 n.r,.int .i64 n.source,n.cl.val,.int .i64 n.key,n.co.val]:=rfl;obtain⟨S,m,p,g⟩:=aR w ((f.cells ts q)) 70;obtain⟨w2,s,t,u⟩:=aR S n.cells 36;have b:=t;have a:=aC p b;have O:=g.of (b.block _ g.lt);have P:=u;obtain⟨eT,fK,gy,gV,fM,iG,ik⟩:=P.k7;obtain⟨bD,bN,bA,bG,bO,bT,bQ,dF,dD,dE,aU,aZ,aV⟩:=O.k13 (by rw[k]; rfl);have V:=hp.1;have y:ps.length=1:=by rw[hl,hk]; rfl
 have W:=Zh a;obtain⟨K,e⟩:∃ R,R=bJ ts q n (ps.getD 0 aT).d (ps.getD 1 aT).d:=⟨_,rfl⟩
 rw[<- e];unfold bJ at e;rw[Qv (by rw[hk]; decide),Qv (by rw[hk]; decide),Qv (by rw[hk]; decide),Qv (by rw[hk]; decide),Qv (by rw[hk]; decide),Qu hk]at e;have z:0<ps.length:=by omega
 obtain⟨⟨M,po,rfl,c0,T,c2,c3,c4,c5⟩,N⟩:=(X8 a hp).2 0 z;rw[QI,Xg]at c0 T c2 c3 c4 c5;generalize ps.getD 0 aT=L at *;generalize ps.getD 1 aT=R at *;have j:Hid (∀ x,Bw w2 x->Cb 94 #[.agg (f.cells ts q),n.co.val,.int .u64 (L.sources:Int)] x (.bool (ug ts q.src.xs n.co.xs L.sources))):=fun x i=>Mc f ts q n.co.ad n.co.cap n.co.xs L.sources x ok (iQ.below (aC a i) hf.cols) (Qt (aC a i) hco) hcap (by have:=N.sources; unfold bB at this; omega)
 rw[k]at j;have e:K=ug ts q.src.xs n.co.xs L.sources:=e;generalize ug ts q.src.xs n.co.xs L.sources=RB at *;have Q:=Zh e;rw[k,v];rw[k]at m;rw[v]at s;clear e g u O P p t a b y hl;clear hf hcl hco hcap hp ok k v D E F G H I J;obtain⟨nk,nl,nr,ns,⟨ca,cc,cl⟩,key,⟨da,dc,co⟩⟩:=n;simp only at hk;subst hk;obtain⟨lk,ls,Gv,⟨la,JR,lx⟩,lz,LA⟩:=L;simp only[aB.cells,ah.cells,aa.val]at *;have X:=Zh Q.o;clear Q;go_enter Tryz.func60,Tryz.ntmps60;go_upto_region 14 with fail;clear m s;refine QA (by kernel_rfl) (by kernel_rfl) ?_;go_big_quiet_want;refine⟨.agg #[v0,Z,v2,v3,v4,v5,v6,v7,v8,v9,A,B,C],fun x i=>?_,?_⟩
 ·have e0:=mi i bD bN bA bG bO bT bQ dF dD dE aU aZ aV;go_simp
 simp only[pU];go_big_quiet_on;refine qS (.pointer (some (aD S.heap.size 6))) ?_;refine qC (.slice da co.length dc) ik ?_;refine qS (.slice (some (aD M po)) ps.length cap) ?_;refine qS (.pointer (some (aD M po))) ?_;refine qS (.pointer (some (aD M (po+1)))) ?_;refine qC (.int .u64 (ls:Int)) T ?_;go_big_quiet_want;refine⟨.bool RB,fun x i=>?_,?_⟩
 ·have hC:=QC i (j.o x i);go_simp
 simp only[pU];go_big_quiet_on;refine qS (.bool RB) ?_;refine XY ?_;intro wE U;have Y:=Zh (aC W.o U);clear U;go_wp2;go_ret;exact⟨Qb X.o.symm,Y.o⟩
theorem agD(f:aS)(ts:List af)(q:ae)(n:ah)(ao:Option Addr)(cap:Nat)(ps:List aB)(w:World)(ok:Ok ts q)(hf:f.At ts q w)(hcl:n.cl.At w)(hco:n.co.At w)(hcap:n.co.xs.length<=n.co.cap)(hp:PartsAt w ao ps)(hk:n.kind=7)(hl:ps.length=arity n.kind) :
  Cb 60 #[.agg (f.cells ts q),.agg n.cells,.slice ao ps.length cap] w (.bool (bJ ts q n (ps.getD 0 aT).d (ps.getD 1 aT).d)):=by
 obtain⟨v0,v1,v2,v3,v4,v5,v6,v7,v8,v9,H,I,J,m,K,M,p,N,O,P,Q,-⟩:=Ju f ts q;have B:n.cells=#[.int .i64 n.kind,.int .i64 n.l,.int .i64 n.r,.int .i64 n.source,n.cl.val,.int .i64 n.key,n.co.val]:=rfl;obtain⟨w1,i,s,j⟩:=aR w ((f.cells ts q)) 70;obtain⟨w2,k,t,u⟩:=aR w1 n.cells 36;have b:=t;have e:=aC s b;have S:=j.of (b.block _ j.lt);have T:=u;obtain⟨eT,fK,gy,gV,fM,iG,ik⟩:=T.k7;obtain⟨bD,bN,A,bG,bO,bT,bQ,dF,dD,dE,aU,aZ,aV⟩:=S.k13 (by rw[m]; rfl);have ag:=hp.1;have C:ps.length=1:=by rw[hl,hk]; rfl
 have U:=Zh e;obtain⟨v,g⟩:∃ R,R=bJ ts q n (ps.getD 0 aT).d (ps.getD 1 aT).d:=⟨_,rfl⟩
 rw[<- g];unfold bJ at g;rw[Qv (by rw[hk]; decide),Qv (by rw[hk]; decide),Qv (by rw[hk]; decide),Qv (by rw[hk]; decide),Qv (by rw[hk]; decide),Qv (by rw[hk]; decide),Qu hk]at g;have D:0<ps.length:=by omega
 obtain⟨⟨V,po,rfl,W,X,Y,Z,c4,c5⟩,ai⟩:=(X8 e hp).2 0 D;rw[QI,Xg]at W X Y Z c4 c5;generalize ps.getD 0 aT=L at *;generalize ps.getD 1 aT=R at *;have E:Hid (∀ x,Bw w2 x->Cb 95 #[.agg (f.cells ts q),.agg L.cells] x (.bool (jq q L.d))):=fun x a=>uK f ts q L x
 rw[m]at E;rw[p]at A E m;have g:=g;generalize jq q L.d=RB at *;generalize q.group=gr at *;have z:=Zh g;rw[m,B];rw[m]at i;rw[B]at k;clear g j u S T s t e b C hl;clear hf hcl hco hcap hp ok m B K M p N O P Q;obtain⟨nk,nl,nr,ns,⟨ca,cc,cl⟩,key,⟨da,dc,co⟩⟩:=n;simp only at hk;subst hk;obtain⟨lk,ls,Gv,⟨la,JR,lx⟩,lz,LA⟩:=L;simp only[aB.cells,ah.cells,aa.val]at *
 cases gr with
 | true =>
  have F:Hid (v=RB):=by show _=_; rw[z.o]; rfl
  clear z;go_enter Tryz.func60,Tryz.ntmps60;go_upto_region 16 with fail;clear i k;refine QA (by kernel_rfl) (by kernel_rfl) ?_;refine qS (.pointer (some (aD w.heap.size 0))) ?_;refine qS (.pointer (some (aD w.heap.size 2))) ?_;refine qC (.bool true) A ?_;refine qS (.bool true) ?_;go_big_quiet_want;refine⟨.agg #[v0,v1,.bool true,v3,v4,v5,v6,v7,v8,v9,H,I,J],fun x a=>?_,?_⟩
  ·have e0:=mi a bD bN A bG bO bT bQ dF dD dE aU aZ aV;go_simp
  simp only[pU];go_big_quiet_on;refine qS (.slice (some (aD V po)) ps.length cap) ?_;refine qS (.pointer (some (aD V po))) ?_;go_big_quiet_want;refine⟨.agg #[.int .i64 lk,.int .u64 (ls:Int),.int .u64 (Gv:Int),.slice la lx.length JR,.int .u64 (lz:Int),.int .u64 (LA:Int)],fun x a=>?_,?_⟩
  ·have e0:=Rb a W X Y Z c4 c5;go_simp
  simp only[pU];go_big_quiet_on;go_big_quiet_want;refine⟨.bool RB,fun x a=>?_,?_⟩
  ·have hC:=QC a (E.o x a);go_simp
  simp only[pU];go_big_quiet_on;refine qS (.bool RB) ?_;refine qS (.bool RB) ?_;refine XY ?_;intro wE y;have G:=Zh (aC U.o y);clear y;go_wp2;go_ret;exact⟨Qb F.o.symm,G.o⟩
 | false =>
  have F:Hid (v=false):=by show _=_; rw[z.o]; rfl
  clear z;go_enter Tryz.func60,Tryz.ntmps60;go_upto_region 16 with fail;clear i k;refine QA (by kernel_rfl) (by kernel_rfl) ?_;refine qS (.pointer (some (aD w.heap.size 0))) ?_;refine qS (.pointer (some (aD w.heap.size 2))) ?_;refine qC (.bool false) A ?_;go_big_quiet_want;refine⟨.bool false,fun x a=>?_,?_⟩
  ·go_simp
  simp only[pU];go_big_quiet_on;go_big_quiet_skip
  try simp only[pU]
  iterate 4 (go_big_quiet_skip; try simp only[pU])
  refine qS (.bool false) ?_;refine qS (.bool false) ?_;refine XY ?_;intro wE y;have G:=Zh (aC U.o y);clear y;go_wp2;go_ret;exact⟨Qb F.o.symm,G.o⟩
theorem agE(f:aS)(ts:List af)(q:ae)(n:ah)(ao:Option Addr)(cap:Nat)(ps:List aB)(w:World)(ok:Ok ts q)(hf:f.At ts q w)(hcl:n.cl.At w)(hco:n.co.At w)(hcap:n.co.xs.length<=n.co.cap)(hp:PartsAt w ao ps)(hk:n.kind=8)(hl:ps.length=arity n.kind) :
  Cb 60 #[.agg (f.cells ts q),.agg n.cells,.slice ao ps.length cap] w (.bool (bJ ts q n (ps.getD 0 aT).d (ps.getD 1 aT).d)):=by
 obtain⟨v0,v1,v2,v3,v4,v5,v6,v7,v8,v9,D,E,F,j,W,X,G,H,Y,Z,ag,-⟩:=Ju f ts q;have Q:n.cells=#[.int .i64 n.kind,.int .i64 n.l,.int .i64 n.r,.int .i64 n.source,n.cl.val,.int .i64 n.key,n.co.val]:=rfl;obtain⟨w1,e,I,s⟩:=aR w ((f.cells ts q)) 70;obtain⟨w2,g,J,K⟩:=aR w1 n.cells 36;have m:=J;have b:=aC I m;have cK:=s.of (m.block _ s.lt);have ig:=K;obtain⟨eT,fK,gy,gV,fM,iG,ik⟩:=ig.k7;obtain⟨bD,bN,z,M,bO,bT,bQ,dF,dD,dE,aU,aZ,aV⟩:=cK.k13 (by rw[j]; rfl);have ai:=hp.1;have S:ps.length=1:=by rw[hl,hk]; rfl
 have T:=Zh b;obtain⟨i,p⟩:∃ R,R=bJ ts q n (ps.getD 0 aT).d (ps.getD 1 aT).d:=⟨_,rfl⟩
 rw[<- p];unfold bJ at p;rw[Qv (by rw[hk]; decide),Qv (by rw[hk]; decide),Qv (by rw[hk]; decide),Qv (by rw[hk]; decide),Qv (by rw[hk]; decide),Qv (by rw[hk]; decide),Qv (by rw[hk]; decide),Qu hk]at p;have U:0<ps.length:=by omega
 obtain⟨⟨t,po,rfl,c0,c1,c2,P,c4,c5⟩,N⟩:=(X8 b hp).2 0 U;rw[QI,Xg]at c0 c1 c2 P c4 c5;generalize ps.getD 0 aT=L at *;generalize ps.getD 1 aT=R at *;have v:Hid (∀ x,Bw w2 x->Cb 95 #[.agg (f.cells ts q),.agg L.cells] x (.bool (jq q L.d))):=fun x a=>uK f ts q L x
 rw[j]at v;rw[G]at z v j;have A:Hid (∀ x,Bw w2 x->Cb 96 #[L.order.val,q.keys.val] x (.bool (bW L.order.xs q.keys.xs))):=fun x a=>rZ L.order.ad q.keys.ad L.order.cap q.keys.cap L.order.xs q.keys.xs x (Qt a N.order) (Qt (aC b a) hf.query.keys) N.cap
 rw[H]at M v j;have p:i=(q.group&&jq q L.d&&bW L.order.xs q.keys.xs):=p;generalize jq q L.d=RB at *;generalize bW L.order.xs q.keys.xs=SB at *;generalize q.group=gr at *;obtain⟨⟨qa,u,qk⟩,O⟩:∃ x,x=q.keys:=⟨_,rfl⟩
 rw[<- O]at M v A j;clear O;have y:=Zh p;rw[j,Q];rw[j]at e;rw[Q]at g;clear p s K cK ig I J b m S hl;clear hf hcl hco hcap hp ok j Q W X G H Y Z ag;obtain⟨nk,nl,nr,ns,⟨ca,cc,cl⟩,key,⟨da,dc,co⟩⟩:=n;simp only at hk;subst hk;obtain⟨lk,ls,Gv,⟨la,JR,lx⟩,lz,LA⟩:=L;simp only[aB.cells,ah.cells,aa.val]at *
 cases gr with
 | false =>
  have B:Hid (i=false):=by show _=_; rw[y.o]; rfl
  clear y;go_enter Tryz.func60,Tryz.ntmps60;go_upto_region 18 with fail;clear e g;refine QA (by kernel_rfl) (by kernel_rfl) ?_;refine qS (.pointer (some (aD w.heap.size 0))) ?_;refine qS (.pointer (some (aD w.heap.size 2))) ?_;refine qC (.bool false) z ?_;go_big_quiet_want;refine⟨.bool false,fun x a=>?_,?_⟩
  ·go_simp
  simp only[pU];go_big_quiet_on;go_big_quiet_skip
  try simp only[pU]
  iterate 4 (go_big_quiet_skip; try simp only[pU])
  refine qS (.bool false) ?_;go_big_quiet_want;refine⟨.bool false,fun x a=>?_,?_⟩
  ·go_simp
  simp only[pU];go_big_quiet_on;go_big_quiet_skip
  try simp only[pU]
  iterate 7 (go_big_quiet_skip; try simp only[pU])
  refine qS (.bool false) ?_;refine qS (.bool false) ?_;refine XY ?_;intro wE k;have C:=Zh (aC T.o k);clear k;go_wp2;go_ret;exact⟨Qb B.o.symm,C.o⟩
 | true =>
  cases RB with
  | false =>
   have B:Hid (i=false):=by show _=_; rw[y.o]; rfl
   clear y;go_enter Tryz.func60,Tryz.ntmps60;go_upto_region 18 with fail;clear e g;refine QA (by kernel_rfl) (by kernel_rfl) ?_;refine qS (.pointer (some (aD w.heap.size 0))) ?_;refine qS (.pointer (some (aD w.heap.size 2))) ?_;refine qC (.bool true) z ?_;refine qS (.bool true) ?_;go_big_quiet_want;refine⟨.agg #[v0,v1,.bool true,.slice qa qk.length u,v4,v5,v6,v7,v8,v9,D,E,F],fun x a=>?_,?_⟩
   ·have V:=mi a bD bN z M bO bT bQ dF dD dE aU aZ aV;go_simp
   simp only[pU];go_big_quiet_on;refine qS (.slice (some (aD t po)) ps.length cap) ?_;refine qS (.pointer (some (aD t po))) ?_;go_big_quiet_want;refine⟨.agg #[.int .i64 lk,.int .u64 (ls:Int),.int .u64 (Gv:Int),.slice la lx.length JR,.int .u64 (lz:Int),.int .u64 (LA:Int)],fun x a=>?_,?_⟩
   ·have V:=Rb a c0 c1 c2 P c4 c5;go_simp
   simp only[pU];go_big_quiet_on;go_big_quiet_want;refine⟨.bool false,fun x a=>?_,?_⟩
   ·have hC:=QC a (v.o x a);go_simp
   simp only[pU];go_big_quiet_on;refine qS (.bool false) ?_;go_big_quiet_want;refine⟨.bool false,fun x a=>?_,?_⟩
   ·go_simp
   simp only[pU];go_big_quiet_on;go_big_quiet_skip
   try simp only[pU]
   iterate 7 (go_big_quiet_skip; try simp only[pU])
   refine qS (.bool false) ?_;refine qS (.bool false) ?_;refine XY ?_;intro wE k;have C:=Zh (aC T.o k);clear k;go_wp2;go_ret;exact⟨Qb B.o.symm,C.o⟩
  | true =>
   have B:Hid (i=SB):=by show _=_; rw[y.o]; rfl
   clear y;go_enter Tryz.func60,Tryz.ntmps60;go_upto_region 18 with fail;clear e g;refine QA (by kernel_rfl) (by kernel_rfl) ?_;refine qS (.pointer (some (aD w.heap.size 0))) ?_;refine qS (.pointer (some (aD w.heap.size 2))) ?_;refine qC (.bool true) z ?_;refine qS (.bool true) ?_;go_big_quiet_want;refine⟨.agg #[v0,v1,.bool true,.slice qa qk.length u,v4,v5,v6,v7,v8,v9,D,E,F],fun x a=>?_,?_⟩
   ·have V:=mi a bD bN z M bO bT bQ dF dD dE aU aZ aV;go_simp
   simp only[pU];go_big_quiet_on;refine qS (.slice (some (aD t po)) ps.length cap) ?_;refine qS (.pointer (some (aD t po))) ?_;go_big_quiet_want;refine⟨.agg #[.int .i64 lk,.int .u64 (ls:Int),.int .u64 (Gv:Int),.slice la lx.length JR,.int .u64 (lz:Int),.int .u64 (LA:Int)],fun x a=>?_,?_⟩
   ·have V:=Rb a c0 c1 c2 P c4 c5;go_simp
   simp only[pU];go_big_quiet_on;go_big_quiet_want;refine⟨.bool true,fun x a=>?_,?_⟩
   ·have hC:=QC a (v.o x a);go_simp
   simp only[pU];go_big_quiet_on;refine qS (.bool true) ?_;refine qS (.bool true) ?_;refine qS (.slice (some (aD t po)) ps.length cap) ?_;refine qS (.pointer (some (aD t po))) ?_;refine qS (.pointer (some (aD t (po+3)))) ?_;refine qC (.slice la lx.length JR) P ?_;refine qS (.pointer (some (aD w.heap.size 0))) ?_;refine qS (.pointer (some (aD w.heap.size 3))) ?_;refine qC (.slice qa qk.length u) M ?_;go_big_quiet_want;refine⟨.bool SB,fun x a=>?_,?_⟩
   ·have hC:=QC a (A.o x a);go_simp
   simp only[pU];go_big_quiet_on;refine qS (.bool SB) ?_;refine qS (.bool SB) ?_;refine XY ?_;intro wE k;have C:=Zh (aC T.o k);clear k;go_wp2;go_ret;exact⟨Qb B.o.symm,C.o⟩
theorem agF(f:aS)(ts:List af)(q:ae)(n:ah)(ao:Option Addr)(cap:Nat)(ps:List aB)(w:World)(ok:Ok ts q)(hf:f.At ts q w)(hcl:n.cl.At w)(hco:n.co.At w)(hcap:n.co.xs.length<=n.co.cap)(hp:PartsAt w ao ps)(hk:n.kind=9)(hl:ps.length=arity n.kind) :
  Cb 60 #[.agg (f.cells ts q),.agg n.cells,.slice ao ps.length cap] w (.bool (bJ ts q n (ps.getD 0 aT).d (ps.getD 1 aT).d)):=by
 obtain⟨v0,v1,v2,v3,v4,v5,v6,v7,v8,v9,H,I,J,m,K,M,p,N,O,P,Q,-⟩:=Ju f ts q;have B:n.cells=#[.int .i64 n.kind,.int .i64 n.l,.int .i64 n.r,.int .i64 n.source,n.cl.val,.int .i64 n.key,n.co.val]:=rfl;obtain⟨w1,i,s,j⟩:=aR w ((f.cells ts q)) 70;obtain⟨w2,k,t,u⟩:=aR w1 n.cells 36;have b:=t;have e:=aC s b;have S:=j.of (b.block _ j.lt);have T:=u;obtain⟨eT,fK,gy,gV,fM,iG,ik⟩:=T.k7;obtain⟨bD,bN,A,bG,bO,bT,bQ,dF,dD,dE,aU,aZ,aV⟩:=S.k13 (by rw[m]; rfl);have ag:=hp.1;have C:ps.length=1:=by rw[hl,hk]; rfl
 have U:=Zh e;obtain⟨v,g⟩:∃ R,R=bJ ts q n (ps.getD 0 aT).d (ps.getD 1 aT).d:=⟨_,rfl⟩
 rw[<- g];unfold bJ at g;rw[Qv (by rw[hk]; decide),Qv (by rw[hk]; decide),Qv (by rw[hk]; decide),Qv (by rw[hk]; decide),Qv (by rw[hk]; decide),Qv (by rw[hk]; decide),Qv (by rw[hk]; decide),Qv (by rw[hk]; decide),Qu hk]at g;have D:0<ps.length:=by omega
 obtain⟨⟨V,po,rfl,W,X,Y,Z,c4,c5⟩,ai⟩:=(X8 e hp).2 0 D;rw[QI,Xg]at W X Y Z c4 c5;generalize ps.getD 0 aT=L at *;generalize ps.getD 1 aT=R at *;have E:Hid (∀ x,Bw w2 x->Cb 95 #[.agg (f.cells ts q),.agg L.cells] x (.bool (jq q L.d))):=fun x a=>uK f ts q L x
 rw[m]at E;rw[p]at A E m;have g:=g;generalize jq q L.d=RB at *;generalize q.group=gr at *;have z:=Zh g;rw[m,B];rw[m]at i;rw[B]at k;clear g j u S T s t e b C hl;clear hf hcl hco hcap hp ok m B K M p N O P Q;obtain⟨nk,nl,nr,ns,⟨ca,cc,cl⟩,key,⟨da,dc,co⟩⟩:=n;simp only at hk;subst hk;obtain⟨lk,ls,Gv,⟨la,JR,lx⟩,lz,LA⟩:=L;simp only[aB.cells,ah.cells,aa.val]at *
 cases gr with
 | true =>
  have F:Hid (v=false):=by show _=_; rw[z.o]; rfl
  clear z;go_enter Tryz.func60,Tryz.ntmps60;go_upto_region 20 with fail;clear i k;refine QA (by kernel_rfl) (by kernel_rfl) ?_;refine qS (.pointer (some (aD w.heap.size 0))) ?_;refine qS (.pointer (some (aD w.heap.size 2))) ?_;refine qC (.bool true) A ?_;refine qS (.bool false) ?_;go_big_quiet_want;refine⟨.bool false,fun x a=>?_,?_⟩
  ·go_simp
  simp only[pU];go_big_quiet_on;go_big_quiet_skip
  try simp only[pU]
  iterate 4 (go_big_quiet_skip; try simp only[pU])
  refine qS (.bool false) ?_;refine qS (.bool false) ?_;refine XY ?_;intro wE y;have G:=Zh (aC U.o y);clear y;go_wp2;go_ret;exact⟨Qb F.o.symm,G.o⟩
 | false =>
  have F:Hid (v=RB):=by show _=_; rw[z.o]; rfl
  clear z;go_enter Tryz.func60,Tryz.ntmps60;go_upto_region 20 with fail;clear i k;refine QA (by kernel_rfl) (by kernel_rfl) ?_;refine qS (.pointer (some (aD w.heap.size 0))) ?_;refine qS (.pointer (some (aD w.heap.size 2))) ?_;refine qC (.bool false) A ?_;refine qS (.bool true) ?_;refine qS (.bool true) ?_;go_big_quiet_want;refine⟨.agg #[v0,v1,.bool false,v3,v4,v5,v6,v7,v8,v9,H,I,J],fun x a=>?_,?_⟩
  ·have e0:=mi a bD bN A bG bO bT bQ dF dD dE aU aZ aV;go_simp
  simp only[pU];go_big_quiet_on;refine qS (.slice (some (aD V po)) ps.length cap) ?_;refine qS (.pointer (some (aD V po))) ?_;go_big_quiet_want;refine⟨.agg #[.int .i64 lk,.int .u64 (ls:Int),.int .u64 (Gv:Int),.slice la lx.length JR,.int .u64 (lz:Int),.int .u64 (LA:Int)],fun x a=>?_,?_⟩
  ·have e0:=Rb a W X Y Z c4 c5;go_simp
  simp only[pU];go_big_quiet_on;go_big_quiet_want;refine⟨.bool RB,fun x a=>?_,?_⟩
  ·have hC:=QC a (E.o x a);go_simp
  simp only[pU];go_big_quiet_on;refine qS (.bool RB) ?_;refine qS (.bool RB) ?_;refine XY ?_;intro wE y;have G:=Zh (aC U.o y);clear y;go_wp2;go_ret;exact⟨Qb F.o.symm,G.o⟩
theorem adN(f:aS)(ts:List af)(q:ae)(n:ah)(ao:Option Addr)(cap:Nat)(ps:List aB)(w:World)(ok:Ok ts q)(hf:f.At ts q w)(hcl:n.cl.At w)(hco:n.co.At w)(hcap:n.co.xs.length<=n.co.cap)(hp:PartsAt w ao ps)(hk:n.kind=10)(hl:ps.length=arity n.kind) :
  Cb 60 #[.agg (f.cells ts q),.agg n.cells,.slice ao ps.length cap] w (.bool (bJ ts q n (ps.getD 0 aT).d (ps.getD 1 aT).d)):=by
 obtain⟨v0,v1,v2,v3,v4,v5,v6,v7,v8,v9,P,Q,S,t,B,C,D,E,F,G,i,-⟩:=Ju f ts q;have u:n.cells=#[.int .i64 n.kind,.int .i64 n.l,.int .i64 n.r,.int .i64 n.source,n.cl.val,.int .i64 n.key,n.co.val]:=rfl;obtain⟨T,H,j,g⟩:=aR w ((f.cells ts q)) 70;obtain⟨w2,I,k,m⟩:=aR T n.cells 36;have a:=k;have b:=aC j a;have J:=g.of (a.block _ g.lt);have K:=m;obtain⟨eT,fK,gy,gV,fM,iG,ik⟩:=K.k7;obtain⟨bD,bN,bA,bG,bO,bT,U,dF,dD,dE,aU,aZ,aV⟩:=J.k13 (by rw[t]; rfl);have O:=hp.1;have v:ps.length=1:=by rw[hl,hk]; rfl
 have M:=Zh b;obtain⟨p,e⟩:∃ R,R=bJ ts q n (ps.getD 0 aT).d (ps.getD 1 aT).d:=⟨_,rfl⟩
 rw[<- e];unfold bJ at e;rw[Qv (by rw[hk]; decide),Qv (by rw[hk]; decide),Qv (by rw[hk]; decide),Qv (by rw[hk]; decide),Qv (by rw[hk]; decide),Qv (by rw[hk]; decide),Qv (by rw[hk]; decide),Qv (by rw[hk]; decide),Qv (by rw[hk]; decide)]at e;have y:0<ps.length:=by omega
 obtain⟨⟨pb,po,rfl,V,W,X,Y,Z,c5⟩,ag⟩:=(X8 b hp).2 0 y;rw[QI,Xg]at V W X Y Z c5;generalize ps.getD 0 aT=L at *;generalize ps.getD 1 aT=R at *;have e:=e;rw[i]at U;have s:=Zh e;rw[t,u];rw[t]at H;rw[u]at I;clear e g m J K j k b a v hl;clear hf hcl hco hcap hp ok t u B C D E F G i;obtain⟨nk,nl,nr,ns,⟨ca,cc,cl⟩,key,⟨da,dc,co⟩⟩:=n;simp only at hk;subst hk;simp only[aB.cells,ah.cells,aa.val]at *;generalize q.ord.xs.length=N at *;by_cases z:0<N
 ·have A:Hid (p=true):=by show _=_; rw[s.o,Qy z]
  clear s;go_enter Tryz.func60,Tryz.ntmps60;go_wp2;go_ret;exact⟨Qb A.o.symm,M.o⟩
 ·have A:Hid (p=false):=by show _=_; rw[s.o,Qg z]
  have z0:N=0:=by omega
  clear s;go_enter Tryz.func60,Tryz.ntmps60;go_wp2;go_ret;exact⟨Qb A.o.symm,M.o⟩
theorem adO(f:aS)(ts:List af)(q:ae)(n:ah)(ao:Option Addr)(cap:Nat)(ps:List aB)(w:World)(ok:Ok ts q)(hf:f.At ts q w)(hcl:n.cl.At w)(hco:n.co.At w)(hcap:n.co.xs.length<=n.co.cap)(hp:PartsAt w ao ps)(hk1:1<=n.kind)(hk10:n.kind<=10)(hl:ps.length=arity n.kind) :
  Cb 60 #[.agg (f.cells ts q),.agg n.cells,.slice ao ps.length cap] w (.bool (bJ ts q n (ps.getD 0 aT).d (ps.getD 1 aT).d)):=by
 rcases (by omega:n.kind=1∨n.kind=2∨n.kind=3∨n.kind=4∨n.kind=5∨n.kind=6∨n.kind=7∨n.kind=8∨n.kind=9∨n.kind=10) with h | h | h | h | h | h | h | h | h | h
 ·exact agq f ts q n ao cap ps w ok hf hcl hco hcap hp h hl
 ·exact agr f ts q n ao cap ps w ok hf hcl hco hcap hp h hl
 ·exact ags f ts q n ao cap ps w ok hf hcl hco hcap hp h hl
 ·exact agA f ts q n ao cap ps w ok hf hcl hco hcap hp h hl
 ·exact agB f ts q n ao cap ps w ok hf hcl hco hcap hp h hl
 ·exact agC f ts q n ao cap ps w ok hf hcl hco hcap hp h hl
 ·exact agD f ts q n ao cap ps w ok hf hcl hco hcap hp h hl
 ·exact agE f ts q n ao cap ps w ok hf hcl hco hcap hp h hl
 ·exact agF f ts q n ao cap ps w ok hf hcl hco hcap hp h hl
 ·exact adN f ts q n ao cap ps w ok hf hcl hco hcap hp h hl
