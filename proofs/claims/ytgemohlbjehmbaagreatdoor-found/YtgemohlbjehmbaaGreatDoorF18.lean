import Derived.Test.YtgemohlbjehmbaaGreatDoorF12
import Derived.Test.YtgemohlbjehmbaaGreatDoorF17
set_option linter.all false
set_option maxRecDepth 100000
set_option maxHeartbeats 16000000
namespace Go.Proofs.Zz
open Go.RowKit Go.Shelf
variable {ps:List aH} {p:aH} {ts:List af} {q:ae} {pl:List ah} {w:World} {n:ah}
def FP(ts:List af)(src aX:List Int)(s i:Nat):Bool:=
 decide (0<=aX.getD i 0)&&decide (aX.getD i 0<az ts src) && !decide (aX.getD i 0∈aX.take i)&&aU s (2 ^ aA ts src (aX.getD i 0))
theorem ad7(ts:List af)(src aX:List Int)(s:Nat):lu ts src aX s=(decide (0<aX.length)&&decide ((aX.length:Int)<=az ts src)&&(List.range aX.length).all (FP ts src aX s)):=rfl
theorem K7(f:aC)(ts:List af)(q:ae)(la:Option Addr)(lc:Nat)(l:List Int)(s:Nat)(w:World)(ok:Ok ts q)(hf:jf w f.ca (jK ts q))(hl:aM w la l)(hcap:l.length<=lc)(hs:s<18446744073709551616) :
  Cb 105 #[.agg (f.cells ts q),.slice la l.length lc,.int .u64 (s:Int)] w (.bool (lu ts q.src.xs l s)):=by
 obtain⟨v0,v1,v2,v3,v4,v5,v6,v7,v8,v9,ax,ay,az,Y,-,-,-,-,-,-,-,Z,-⟩:=Z6 f ts q;obtain⟨w1,L,M,N⟩:=bn w ((f.cells ts q)) 68;have u:=M;have fH:=N;obtain⟨eT,fI,eQ,fD,fJ,fQ,fM,iK,iI,iJ,dR,eH,dS⟩:=fH.k13 (by rw[Y]; rfl);subst Z;have z:=Br ok;have v:Hid (lu ts q.src.xs l s=(decide (0<l.length)&&decide (l.length<=(jK ts q).length)&&(List.range l.length).all (FP ts q.src.xs l s))):=by
  show _=_;have hd:decide ((l.length:Int)<=((jK ts q).length:Int))=decide (l.length<=(jK ts q).length):=by simp
  rw[ad7,<- z,hd]
 have A:Hid (∀ i,FP ts q.src.xs l s i=(decide (0<=l.getD i 0)&&decide (l.getD i 0<((jK ts q).length:Int)) && !decide (l.getD i 0∈l.take i)&&aU s (2 ^ aA ts q.src.xs (l.getD i 0)))):=λi=>by unfold FP; rw[z]
 have T:Hid (∀ x b c,Bw w1 x->x.cell? (aD b 0)=some (.int .i64 c)->0<=c->c<((jK ts q).length:Int)->(Cb 84 #[.agg (f.cells ts q),.slice (some (aD b 0)) 1 1] x (.int .u64 ((2 ^ aA ts q.src.xs c:Nat):Int)))/\2 ^ aA ts q.src.xs c<18446744073709551616):=
  λx b c hb h0 h1 h2=>⟨xJ f ts q b c x ok (hf.below (aF u hb)) h0 (λc' aB=>by grind),ZN (n:=64) (by omega) (QH (Ei ok h1 (by omega)) ok.small)⟩
 have B:Hid (∀ x m,m<18446744073709551616->_):=λx m hm=>mQ s m hs hm x;have Bq:Hid _:=Ql u hl;have aa:=hl.1;have ag:=hf.1;have E:=Zh u;rw[Y]at T L ⊢;generalize lu ts q.src.xs l s=SP at *;generalize FP ts q.src.xs l s=SA at *;obtain⟨SN,O⟩:∃ SN:Int->Nat,∀ c,2 ^ aA ts q.src.xs c=SN c:=⟨_,λ_=>rfl⟩;simp only[O]at A T;have F:=Zh A.o;have U:=Zh T.o;generalize jK ts q=CS at *;clear O A T z Y N fH M u hf hl ok hs;by_cases z0:l.length=0
 ·have p:Hid (SP=false):=by grind
  have zb:((l.length:Int)==0)=true:=by rw[z0]; rfl
  clear v F U B z0;go_enter Tryz.func105,Tryz.ntmps105;go_wp2;go_ret;exact⟨Qd p.o.symm,E.o⟩
 have zb:((l.length:Int)==0)=false:=by rw[Z4]; omega
 by_cases z1:CS.length<l.length
 ·have p:Hid (SP=false):=by grind
  have ah:(CS.length:Int)<(l.length:Int):=by omega
  clear v F U B z0;go_enter Tryz.func105,Tryz.ntmps105;go_wp2;go_ret;exact⟨Qd p.o.symm,E.o⟩
 have G:Hid (SP=(List.range l.length).all SA):=by show _=_; rw[v.o,Qv (by omega),Qv (by omega)]; rfl
 clear v z0;go_enter Tryz.func105,Tryz.ntmps105;go_wp2;clear L;go_loopw [22] (λiv wr=>∃ k:Nat,k<=l.length/\iv=.int .i64 k/\Hid (∀ j,j<k->SA j=true)/\Bw w1 wr) (λiv _=>l.length-(intOf iv).toNat)
 case atStart=>exact⟨0,QK _,rfl,λj hj=>absurd hj (by omega),Qm _ _⟩
 case round=>
  obtain⟨k,hk,rfl,V,a⟩:=hrel;by_cases R:k<l.length
  ·obtain⟨lb,lo,rfl,P⟩:=Qg Bq.o R;have ai:=cB a (P k R);have r:=Zh (F.o k);have d:Hid (SA k=false->SP=false):=λe=>by rw[G.o,List.all_eq_false];grind
   have D:Hid (SA k=true->∀ j,j<k+1->SA j=true):=λh j hj=>by
    rcases Z0 j k with h' | h'
    ·exact V.o j h'
    grind
   have g:=zF (some (aD lb lo)) lc (l.take k) (l.getD k 0) wr (Ql a (aM.take Bq.o k));rw[ZZ,Nat.min_eq_left (by omega)]at g;have H:=Zh (aF E.o a);clear P V F;generalize l.take k=LT at *;generalize l.getD k 0=c at *;by_cases h1:c<0
   ·have p:=Zh (d.o (by rw[r.o,ZW (by omega)]; rfl));clear r d D g;go_wp2;go_ret;exact⟨Qd p.o.symm,H.o⟩
   have p7:=cB a iK;by_cases h2:(CS.length:Int)<=c
   ·have p:=Zh (d.o (by rw[r.o,ZW (show ¬ c<(CS.length:Int) by omega),Bool.and_false]; rfl));clear r d D g;go_wp2;go_ret;exact⟨Qd p.o.symm,H.o⟩
   clear p7;have q0:=cB a eT;have q1:=cB a fI;have q2:=cB a eQ;have q3:=cB a fD;have q4:=cB a fJ;have q5:=cB a fQ;have q6:=cB a fM;have q7:=cB a iK;have q8:=cB a iI;have q9:=cB a iJ;have aj:=cB a dR;have ak:=cB a eH;have au:=cB a dS;by_cases S:c∈LT
   ·have p:=Zh (d.o (by rw[r.o,Qv S]; simp));rw[Qv S]at g;clear r d D S;go_wp2_with fail;refine Z5 g ?_;clear g;rintro e w2 ⟨rfl,rfl⟩;go_wp2;go_ret;exact⟨Qd p.o.symm,H.o⟩
   rw[ZW S]at g r;obtain⟨wa,W⟩:∃ x,wr.alloc (.cells #[.int .i64 c] 3)=x:=⟨_,rfl⟩;have y:Bw wr wa:=by rw[<- W]; exact fq _ _
   obtain⟨X,Q⟩:=U.o wa wr.heap.size c (aF a y) (by rw[<- W]; simp) (by omega) (by omega);have Ot:=Zh (aF a y);have av:=Zh y;generalize SN c=m at *;have I:Hid (∀ x,_):=λx=>B.o x m Q;have J:decide (0<=c)=true:=Qv (by omega);have K:decide (c<(CS.length:Int))=true:=Qv (by omega);rw[J,K]at r;generalize aU s m=CB at *;clear J K y Q S
   cases CB with
   | true =>
    have HT:=Zh (D.o (by rw[r.o]; rfl));clear r d D;go_wp2_with fail;refine Z5 g ?_;clear g;rintro e w2 ⟨rfl,rfl⟩;go_wp2_with fail;refine Z5 X ?_;clear X W;rintro e w3 ⟨rfl,t⟩;have C:=Zh (aF Ot.o t);clear t a;go_wp2_with fail;refine Z5 (I.o _) ?_;rintro e w4 ⟨rfl,rfl⟩;go_wp2;go_roundw
    case rel=>exact⟨k+1,by omega,by go_num,HT.o,C.o⟩
    case measure=>simp[intOf]; omega
   | false =>
    have p:=Zh (d.o (by rw[r.o]; rfl));clear r d D;go_wp2_with fail;refine Z5 g ?_;clear g;rintro e w2 ⟨rfl,rfl⟩;go_wp2_with fail;refine Z5 X ?_;clear X W;rintro e w3 ⟨rfl,t⟩;have C:=Zh (aF E.o (aF Ot.o t));clear t a;go_wp2_with fail;refine Z5 (I.o _) ?_;rintro e w4 ⟨rfl,rfl⟩;go_wp2;go_ret;exact⟨Qd p.o.symm,C.o⟩
  ·have p:Hid (SP=true):=by show _=_;rw[G.o,Qk];exact λi hi=>V.o i (by have:=Q0.1 hi; omega)
   have H:=Zh (aF E.o a);clear V F U a;go_wp2;go_ret;exact⟨Qd p.o.symm,H.o⟩
theorem ahk(f:aC)(ts:List af)(q:ae)(n:ah)(ao:Option Addr)(cap:Nat)(ps:List aH)(w:World)(ok:Ok ts q)(hf:f.At ts q w)(hcl:n.cl.At w)(hco:n.co.At w)(hcap:n.co.xs.length<=n.co.cap)(hp:PartsAt w ao ps)(hk:n.kind=6)(hl:ps.length=arity n.kind) :
  Cb 65 #[.agg (f.cells ts q),.agg n.cells,.slice ao ps.length cap] w (.bool (dh ts q n (ps.getD 0 bE).d (ps.getD 1 bE).d)):=by
 obtain⟨v0,v1,v2,v3,v4,v5,v6,v7,v8,v9,A,B,C,k,D,E,F,G,H,I,J,-⟩:=Z6 f ts q;have v:n.cells=#[.int .i64 n.kind,.int .i64 n.l,.int .i64 n.r,.int .i64 n.source,n.cl.val,.int .i64 n.key,n.co.val]:=rfl;obtain⟨T,m,p,g⟩:=bn w ((f.cells ts q)) 68;obtain⟨w2,s,t,u⟩:=bn T n.cells 75;have b:=t;have a:=aF p b;have P:=g.of (b.block _ g.lt);have Q:=u;obtain⟨kS,mG,mH,oN,lI,oO,oP⟩:=Q.k7;obtain⟨eT,fI,eQ,fD,fJ,fQ,fM,iK,iI,iJ,dR,eH,dS⟩:=P.k13 (by rw[k]; rfl);have W:=hp.1;have y:ps.length=1:=by rw[hl,hk]; rfl
 have X:=Zh a;obtain⟨K,e⟩:∃ R,R=dh ts q n (ps.getD 0 bE).d (ps.getD 1 bE).d:=⟨_,rfl⟩;rw[<- e];unfold dh at e;rw[Qu (by rw[hk]; decide),Qu (by rw[hk]; decide),Qu (by rw[hk]; decide),Qu (by rw[hk]; decide),Qu (by rw[hk]; decide),Qo hk]at e;have z:0<ps.length:=by omega
 obtain⟨⟨M,N,rfl,c0,U,c2,c3,c4,c5⟩,O⟩:=(ZC a hp).2 0 z;rw[Z7,ZG]at c0 U c2 c3 c4 c5;generalize ps.getD 0 bE=L at *;generalize ps.getD 1 bE=R at *;have j:Hid (∀ x,Bw w2 x->Cb 105 #[.agg (f.cells ts q),n.co.val,.int .u64 (L.sources:Int)] x (.bool (lu ts q.src.xs n.co.xs L.sources))):=λx i=>K7 f ts q n.co.ad n.co.cap n.co.xs L.sources x ok (jf.below (aF a i) hf.aX) (Ql (aF a i) hco) hcap (by have:=O.sources; unfold dA at this; omega);rw[k]at j;have e:K=lu ts q.src.xs n.co.xs L.sources:=e;generalize lu ts q.src.xs n.co.xs L.sources=RB at *;have S:=Zh e;rw[k,v];rw[k]at m;rw[v]at s;clear e g u P Q p t a b y hl;clear hf hcl hco hcap hp ok k v D E F G H I J;obtain⟨nk,nl,nr,ns,⟨ca,cc,cl⟩,key,⟨da,dc,co⟩⟩:=n;simp only at hk;subst hk;obtain⟨lk,ls,J4,⟨la,IK,lx⟩,lz,Oq⟩:=L;simp only[aH.cells,ah.cells,ai.val]at *;have Y:=Zh S.o;clear S;go_enter Tryz.func65,Tryz.ntmps65;go_upto_region 14 with fail;clear m s;refine Qq (by kernel_rfl) (by kernel_rfl) ?_;go_big_quiet_want;refine⟨.agg #[v0,v1,v2,v3,v4,v5,v6,v7,v8,v9,A,B,C],λx i=>?_,?_⟩
 ·have e0:=l7 i eT fI eQ fD fJ fQ fM iK iI iJ dR eH dS;go_simp
 simp only[pU];go_big_quiet_on;refine qS (.pointer (some (aD T.heap.size 6))) ?_;refine qC (.slice da co.length dc) oP ?_;refine qS (.slice (some (aD M N)) ps.length cap) ?_;refine qS (.pointer (some (aD M N))) ?_;refine qS (.pointer (some (aD M (N+1)))) ?_;refine qC (.int .u64 (ls:Int)) U ?_;go_big_quiet_want;refine⟨.bool RB,λx i=>?_,?_⟩
 ·have hC:=Qr i (j.o x i);go_simp
 simp only[pU];go_big_quiet_on;refine qS (.bool RB) ?_;refine Z8 ?_;intro wE V;have Z:=Zh (aF X.o V);clear V;go_wp2;go_ret;exact⟨Qd Y.o.symm,Z.o⟩
theorem ahl(f:aC)(ts:List af)(q:ae)(n:ah)(ao:Option Addr)(cap:Nat)(ps:List aH)(w:World)(ok:Ok ts q)(hf:f.At ts q w)(hcl:n.cl.At w)(hco:n.co.At w)(hcap:n.co.xs.length<=n.co.cap)(hp:PartsAt w ao ps)(hk:n.kind=7)(hl:ps.length=arity n.kind) :
  Cb 65 #[.agg (f.cells ts q),.agg n.cells,.slice ao ps.length cap] w (.bool (dh ts q n (ps.getD 0 bE).d (ps.getD 1 bE).d)):=by
 obtain⟨v0,v1,v2,v3,v4,v5,v6,v7,v8,v9,H,I,J,m,K,M,p,N,O,P,Q,-⟩:=Z6 f ts q;have B:n.cells=#[.int .i64 n.kind,.int .i64 n.l,.int .i64 n.r,.int .i64 n.source,n.cl.val,.int .i64 n.key,n.co.val]:=rfl;obtain⟨w1,i,s,j⟩:=bn w ((f.cells ts q)) 68;obtain⟨w2,k,t,u⟩:=bn w1 n.cells 75;have b:=t;have e:=aF s b;have S:=j.of (b.block _ j.lt);have T:=u;obtain⟨kS,mG,mH,oN,lI,oO,oP⟩:=T.k7;obtain⟨eT,fI,A,fD,fJ,fQ,fM,iK,iI,iJ,dR,eH,dS⟩:=S.k13 (by rw[m]; rfl);have aa:=hp.1;have C:ps.length=1:=by rw[hl,hk]; rfl
 have U:=Zh e;obtain⟨v,g⟩:∃ R,R=dh ts q n (ps.getD 0 bE).d (ps.getD 1 bE).d:=⟨_,rfl⟩;rw[<- g];unfold dh at g;rw[Qu (by rw[hk]; decide),Qu (by rw[hk]; decide),Qu (by rw[hk]; decide),Qu (by rw[hk]; decide),Qu (by rw[hk]; decide),Qu (by rw[hk]; decide),Qo hk]at g;have D:0<ps.length:=by omega
 obtain⟨⟨V,W,rfl,X,Y,Z,c3,c4,c5⟩,ag⟩:=(ZC e hp).2 0 D;rw[Z7,ZG]at X Y Z c3 c4 c5;generalize ps.getD 0 bE=L at *;generalize ps.getD 1 bE=R at *;have E:Hid (∀ x,Bw w2 x->Cb 106 #[.agg (f.cells ts q),.agg L.cells] x (.bool (kF q L.d))):=λx a=>uN f ts q L x;rw[m]at E;rw[p]at A E m;have g:=g;generalize kF q L.d=RB at *;generalize q.group=gr at *;have z:=Zh g;rw[m,B];rw[m]at i;rw[B]at k;clear g j u S T s t e b C hl;clear hf hcl hco hcap hp ok m B K M p N O P Q;obtain⟨nk,nl,nr,ns,⟨ca,cc,cl⟩,key,⟨da,dc,co⟩⟩:=n;simp only at hk;subst hk;obtain⟨lk,ls,J4,⟨la,IK,lx⟩,lz,Oq⟩:=L;simp only[aH.cells,ah.cells,ai.val]at *
 cases gr with
 | true =>
  have F:Hid (v=RB):=by show _=_; rw[z.o]; rfl
  clear z;go_enter Tryz.func65,Tryz.ntmps65;go_upto_region 16 with fail;clear i k;refine Qq (by kernel_rfl) (by kernel_rfl) ?_;refine qS (.pointer (some (aD w.heap.size 0))) ?_;refine qS (.pointer (some (aD w.heap.size 2))) ?_;refine qC (.bool true) A ?_;refine qS (.bool true) ?_;go_big_quiet_want;refine⟨.agg #[v0,v1,.bool true,v3,v4,v5,v6,v7,v8,v9,H,I,J],λx a=>?_,?_⟩
  ·have e0:=l7 a eT fI A fD fJ fQ fM iK iI iJ dR eH dS;go_simp
  simp only[pU];go_big_quiet_on;refine qS (.slice (some (aD V W)) ps.length cap) ?_;refine qS (.pointer (some (aD V W))) ?_;go_big_quiet_want;refine⟨.agg #[.int .i64 lk,.int .u64 (ls:Int),.int .u64 (J4:Int),.slice la lx.length IK,.int .u64 (lz:Int),.int .u64 (Oq:Int)],λx a=>?_,?_⟩
  ·have e0:=Pj a X Y Z c3 c4 c5;go_simp
  simp only[pU];go_big_quiet_on;go_big_quiet_want;refine⟨.bool RB,λx a=>?_,?_⟩
  ·have hC:=Qr a (E.o x a);go_simp
  simp only[pU];go_big_quiet_on;refine qS (.bool RB) ?_;refine qS (.bool RB) ?_;refine Z8 ?_;intro wE y;have G:=Zh (aF U.o y);clear y;go_wp2;go_ret;exact⟨Qd F.o.symm,G.o⟩
 | false =>
  have F:Hid (v=false):=by show _=_; rw[z.o]; rfl
  clear z;go_enter Tryz.func65,Tryz.ntmps65;go_upto_region 16 with fail;clear i k;refine Qq (by kernel_rfl) (by kernel_rfl) ?_;refine qS (.pointer (some (aD w.heap.size 0))) ?_;refine qS (.pointer (some (aD w.heap.size 2))) ?_;refine qC (.bool false) A ?_;go_big_quiet_want;refine⟨.bool false,λx a=>?_,?_⟩
  ·go_simp
  simp only[pU];go_big_quiet_on;go_big_quiet_skip;try simp only[pU]
  iterate 4 (go_big_quiet_skip; try simp only[pU])
  refine qS (.bool false) ?_;refine qS (.bool false) ?_;refine Z8 ?_;intro wE y;have G:=Zh (aF U.o y);clear y;go_wp2;go_ret;exact⟨Qd F.o.symm,G.o⟩
theorem ahm(f:aC)(ts:List af)(q:ae)(n:ah)(ao:Option Addr)(cap:Nat)(ps:List aH)(w:World)(ok:Ok ts q)(hf:f.At ts q w)(hcl:n.cl.At w)(hco:n.co.At w)(hcap:n.co.xs.length<=n.co.cap)(hp:PartsAt w ao ps)(hk:n.kind=8)(hl:ps.length=arity n.kind) :
  Cb 65 #[.agg (f.cells ts q),.agg n.cells,.slice ao ps.length cap] w (.bool (dh ts q n (ps.getD 0 bE).d (ps.getD 1 bE).d)):=by
 obtain⟨v0,v1,v2,v3,v4,v5,v6,v7,v8,v9,D,E,F,j,W,X,G,H,Y,Z,aa,-⟩:=Z6 f ts q;have Q:n.cells=#[.int .i64 n.kind,.int .i64 n.l,.int .i64 n.r,.int .i64 n.source,n.cl.val,.int .i64 n.key,n.co.val]:=rfl;obtain⟨w1,e,I,s⟩:=bn w ((f.cells ts q)) 68;obtain⟨w2,g,J,K⟩:=bn w1 n.cells 75;have m:=J;have b:=aF I m;have fH:=s.of (m.block _ s.lt);have lM:=K;obtain⟨kS,mG,mH,oN,lI,oO,oP⟩:=lM.k7;obtain⟨eT,fI,A,M,fJ,fQ,fM,iK,iI,iJ,dR,eH,dS⟩:=fH.k13 (by rw[j]; rfl);have ag:=hp.1;have S:ps.length=1:=by rw[hl,hk]; rfl
 have T:=Zh b;obtain⟨i,p⟩:∃ R,R=dh ts q n (ps.getD 0 bE).d (ps.getD 1 bE).d:=⟨_,rfl⟩;rw[<- p];unfold dh at p;rw[Qu (by rw[hk]; decide),Qu (by rw[hk]; decide),Qu (by rw[hk]; decide),Qu (by rw[hk]; decide),Qu (by rw[hk]; decide),Qu (by rw[hk]; decide),Qu (by rw[hk]; decide),Qo hk]at p;have U:0<ps.length:=by omega
 obtain⟨⟨t,u,rfl,c0,c1,c2,P,c4,c5⟩,N⟩:=(ZC b hp).2 0 U;rw[Z7,ZG]at c0 c1 c2 P c4 c5;generalize ps.getD 0 bE=L at *;generalize ps.getD 1 bE=R at *;have y:Hid (∀ x,Bw w2 x->Cb 106 #[.agg (f.cells ts q),.agg L.cells] x (.bool (kF q L.d))):=λx a=>uN f ts q L x;rw[j]at y;rw[G]at A y j;have Sk:Hid (∀ x,Bw w2 x->Cb 107 #[L.order.val,q.keys.val] x (.bool (au L.order.xs q.keys.xs))):=λx a=>kR L.order.ad q.keys.ad L.order.cap q.keys.cap L.order.xs q.keys.xs x (Ql a N.order) (Ql (aF b a) hf.query.keys) N.cap;rw[H]at M y j;have p:i=(q.group&&kF q L.d&&au L.order.xs q.keys.xs):=p;generalize kF q L.d=RB at *;generalize au L.order.xs q.keys.xs=SB at *;generalize q.group=gr at *;obtain⟨⟨qa,v,qk⟩,O⟩:∃ x,x=q.keys:=⟨_,rfl⟩;rw[<- O]at M y Sk j;clear O;have z:=Zh p;rw[j,Q];rw[j]at e;rw[Q]at g;clear p s K fH lM I J b m S hl;clear hf hcl hco hcap hp ok j Q W X G H Y Z aa;obtain⟨nk,nl,nr,ns,⟨ca,cc,cl⟩,key,⟨da,dc,co⟩⟩:=n;simp only at hk;subst hk;obtain⟨lk,ls,J4,⟨la,IK,lx⟩,lz,Oq⟩:=L;simp only[aH.cells,ah.cells,ai.val]at *
 cases gr with
 | false =>
  have B:Hid (i=false):=by show _=_; rw[z.o]; rfl
  clear z;go_enter Tryz.func65,Tryz.ntmps65;go_upto_region 18 with fail;clear e g;refine Qq (by kernel_rfl) (by kernel_rfl) ?_;refine qS (.pointer (some (aD w.heap.size 0))) ?_;refine qS (.pointer (some (aD w.heap.size 2))) ?_;refine qC (.bool false) A ?_;go_big_quiet_want;refine⟨.bool false,λx a=>?_,?_⟩
  ·go_simp
  simp only[pU];go_big_quiet_on;go_big_quiet_skip;try simp only[pU]
  iterate 4 (go_big_quiet_skip; try simp only[pU])
  refine qS (.bool false) ?_;go_big_quiet_want;refine⟨.bool false,λx a=>?_,?_⟩
  ·go_simp
  simp only[pU];go_big_quiet_on;go_big_quiet_skip;try simp only[pU]
  iterate 7 (go_big_quiet_skip; try simp only[pU])
  refine qS (.bool false) ?_;refine qS (.bool false) ?_;refine Z8 ?_;intro wE k;have C:=Zh (aF T.o k);clear k;go_wp2;go_ret;exact⟨Qd B.o.symm,C.o⟩
 | true =>
  cases RB with
  | false =>
   have B:Hid (i=false):=by show _=_; rw[z.o]; rfl
   clear z;go_enter Tryz.func65,Tryz.ntmps65;go_upto_region 18 with fail;clear e g;refine Qq (by kernel_rfl) (by kernel_rfl) ?_;refine qS (.pointer (some (aD w.heap.size 0))) ?_;refine qS (.pointer (some (aD w.heap.size 2))) ?_;refine qC (.bool true) A ?_;refine qS (.bool true) ?_;go_big_quiet_want;refine⟨.agg #[v0,v1,.bool true,.slice qa qk.length v,v4,v5,v6,v7,v8,v9,D,E,F],λx a=>?_,?_⟩
   ·have V:=l7 a eT fI A M fJ fQ fM iK iI iJ dR eH dS;go_simp
   simp only[pU];go_big_quiet_on;refine qS (.slice (some (aD t u)) ps.length cap) ?_;refine qS (.pointer (some (aD t u))) ?_;go_big_quiet_want;refine⟨.agg #[.int .i64 lk,.int .u64 (ls:Int),.int .u64 (J4:Int),.slice la lx.length IK,.int .u64 (lz:Int),.int .u64 (Oq:Int)],λx a=>?_,?_⟩
   ·have V:=Pj a c0 c1 c2 P c4 c5;go_simp
   simp only[pU];go_big_quiet_on;go_big_quiet_want;refine⟨.bool false,λx a=>?_,?_⟩
   ·have hC:=Qr a (y.o x a);go_simp
   simp only[pU];go_big_quiet_on;refine qS (.bool false) ?_;go_big_quiet_want;refine⟨.bool false,λx a=>?_,?_⟩
   ·go_simp
   simp only[pU];go_big_quiet_on;go_big_quiet_skip;try simp only[pU]
   iterate 7 (go_big_quiet_skip; try simp only[pU])
   refine qS (.bool false) ?_;refine qS (.bool false) ?_;refine Z8 ?_;intro wE k;have C:=Zh (aF T.o k);clear k;go_wp2;go_ret;exact⟨Qd B.o.symm,C.o⟩
  | true =>
   have B:Hid (i=SB):=by show _=_; rw[z.o]; rfl
   clear z;go_enter Tryz.func65,Tryz.ntmps65;go_upto_region 18 with fail;clear e g;refine Qq (by kernel_rfl) (by kernel_rfl) ?_;refine qS (.pointer (some (aD w.heap.size 0))) ?_;refine qS (.pointer (some (aD w.heap.size 2))) ?_;refine qC (.bool true) A ?_;refine qS (.bool true) ?_;go_big_quiet_want;refine⟨.agg #[v0,v1,.bool true,.slice qa qk.length v,v4,v5,v6,v7,v8,v9,D,E,F],λx a=>?_,?_⟩
   ·have V:=l7 a eT fI A M fJ fQ fM iK iI iJ dR eH dS;go_simp
   simp only[pU];go_big_quiet_on;refine qS (.slice (some (aD t u)) ps.length cap) ?_;refine qS (.pointer (some (aD t u))) ?_;go_big_quiet_want;refine⟨.agg #[.int .i64 lk,.int .u64 (ls:Int),.int .u64 (J4:Int),.slice la lx.length IK,.int .u64 (lz:Int),.int .u64 (Oq:Int)],λx a=>?_,?_⟩
   ·have V:=Pj a c0 c1 c2 P c4 c5;go_simp
   simp only[pU];go_big_quiet_on;go_big_quiet_want;refine⟨.bool true,λx a=>?_,?_⟩
   ·have hC:=Qr a (y.o x a);go_simp
   simp only[pU];go_big_quiet_on;refine qS (.bool true) ?_;refine qS (.bool true) ?_;refine qS (.slice (some (aD t u)) ps.length cap) ?_;refine qS (.pointer (some (aD t u))) ?_;refine qS (.pointer (some (aD t (u+3)))) ?_;refine qC (.slice la lx.length IK) P ?_;refine qS (.pointer (some (aD w.heap.size 0))) ?_;refine qS (.pointer (some (aD w.heap.size 3))) ?_;refine qC (.slice qa qk.length v) M ?_;go_big_quiet_want;refine⟨.bool SB,λx a=>?_,?_⟩
   ·have hC:=Qr a (Sk.o x a);go_simp
   simp only[pU];go_big_quiet_on;refine qS (.bool SB) ?_;refine qS (.bool SB) ?_;refine Z8 ?_;intro wE k;have C:=Zh (aF T.o k);clear k;go_wp2;go_ret;exact⟨Qd B.o.symm,C.o⟩
theorem ahn(f:aC)(ts:List af)(q:ae)(n:ah)(ao:Option Addr)(cap:Nat)(ps:List aH)(w:World)(ok:Ok ts q)(hf:f.At ts q w)(hcl:n.cl.At w)(hco:n.co.At w)(hcap:n.co.xs.length<=n.co.cap)(hp:PartsAt w ao ps)(hk:n.kind=9)(hl:ps.length=arity n.kind) :
  Cb 65 #[.agg (f.cells ts q),.agg n.cells,.slice ao ps.length cap] w (.bool (dh ts q n (ps.getD 0 bE).d (ps.getD 1 bE).d)):=by
 obtain⟨v0,v1,v2,v3,v4,v5,v6,v7,v8,v9,H,I,J,m,K,M,p,N,O,P,Q,-⟩:=Z6 f ts q;have B:n.cells=#[.int .i64 n.kind,.int .i64 n.l,.int .i64 n.r,.int .i64 n.source,n.cl.val,.int .i64 n.key,n.co.val]:=rfl;obtain⟨w1,i,s,j⟩:=bn w ((f.cells ts q)) 68;obtain⟨w2,k,t,u⟩:=bn w1 n.cells 75;have b:=t;have e:=aF s b;have S:=j.of (b.block _ j.lt);have T:=u;obtain⟨kS,mG,mH,oN,lI,oO,oP⟩:=T.k7;obtain⟨eT,fI,A,fD,fJ,fQ,fM,iK,iI,iJ,dR,eH,dS⟩:=S.k13 (by rw[m]; rfl);have aa:=hp.1;have C:ps.length=1:=by rw[hl,hk]; rfl
 have U:=Zh e;obtain⟨v,g⟩:∃ R,R=dh ts q n (ps.getD 0 bE).d (ps.getD 1 bE).d:=⟨_,rfl⟩;rw[<- g];unfold dh at g;rw[Qu (by rw[hk]; decide),Qu (by rw[hk]; decide),Qu (by rw[hk]; decide),Qu (by rw[hk]; decide),Qu (by rw[hk]; decide),Qu (by rw[hk]; decide),Qu (by rw[hk]; decide),Qu (by rw[hk]; decide),Qo hk]at g;have D:0<ps.length:=by omega
 obtain⟨⟨V,W,rfl,X,Y,Z,c3,c4,c5⟩,ag⟩:=(ZC e hp).2 0 D;rw[Z7,ZG]at X Y Z c3 c4 c5;generalize ps.getD 0 bE=L at *;generalize ps.getD 1 bE=R at *;have E:Hid (∀ x,Bw w2 x->Cb 106 #[.agg (f.cells ts q),.agg L.cells] x (.bool (kF q L.d))):=λx a=>uN f ts q L x;rw[m]at E;rw[p]at A E m;have g:=g;generalize kF q L.d=RB at *;generalize q.group=gr at *;have z:=Zh g;rw[m,B];rw[m]at i;rw[B]at k;clear g j u S T s t e b C hl;clear hf hcl hco hcap hp ok m B K M p N O P Q;obtain⟨nk,nl,nr,ns,⟨ca,cc,cl⟩,key,⟨da,dc,co⟩⟩:=n;simp only at hk;subst hk;obtain⟨lk,ls,J4,⟨la,IK,lx⟩,lz,Oq⟩:=L;simp only[aH.cells,ah.cells,ai.val]at *
 cases gr with
 | true =>
  have F:Hid (v=false):=by show _=_; rw[z.o]; rfl
  clear z;go_enter Tryz.func65,Tryz.ntmps65;go_upto_region 20 with fail;clear i k;refine Qq (by kernel_rfl) (by kernel_rfl) ?_;refine qS (.pointer (some (aD w.heap.size 0))) ?_;refine qS (.pointer (some (aD w.heap.size 2))) ?_;refine qC (.bool true) A ?_;refine qS (.bool false) ?_;go_big_quiet_want;refine⟨.bool false,λx a=>?_,?_⟩
  ·go_simp
  simp only[pU];go_big_quiet_on;go_big_quiet_skip;try simp only[pU]
  iterate 4 (go_big_quiet_skip; try simp only[pU])
  refine qS (.bool false) ?_;refine qS (.bool false) ?_;refine Z8 ?_;intro wE y;have G:=Zh (aF U.o y);clear y;go_wp2;go_ret;exact⟨Qd F.o.symm,G.o⟩
 | false =>
  have F:Hid (v=RB):=by show _=_; rw[z.o]; rfl
  clear z;go_enter Tryz.func65,Tryz.ntmps65;go_upto_region 20 with fail;clear i k;refine Qq (by kernel_rfl) (by kernel_rfl) ?_;refine qS (.pointer (some (aD w.heap.size 0))) ?_;refine qS (.pointer (some (aD w.heap.size 2))) ?_;refine qC (.bool false) A ?_;refine qS (.bool true) ?_;refine qS (.bool true) ?_;go_big_quiet_want;refine⟨.agg #[v0,v1,.bool false,v3,v4,v5,v6,v7,v8,v9,H,I,J],λx a=>?_,?_⟩
  ·have e0:=l7 a eT fI A fD fJ fQ fM iK iI iJ dR eH dS;go_simp
  simp only[pU];go_big_quiet_on;refine qS (.slice (some (aD V W)) ps.length cap) ?_;refine qS (.pointer (some (aD V W))) ?_;go_big_quiet_want;refine⟨.agg #[.int .i64 lk,.int .u64 (ls:Int),.int .u64 (J4:Int),.slice la lx.length IK,.int .u64 (lz:Int),.int .u64 (Oq:Int)],λx a=>?_,?_⟩
  ·have e0:=Pj a X Y Z c3 c4 c5;go_simp
  simp only[pU];go_big_quiet_on;go_big_quiet_want;refine⟨.bool RB,λx a=>?_,?_⟩
  ·have hC:=Qr a (E.o x a);go_simp
  simp only[pU];go_big_quiet_on;refine qS (.bool RB) ?_;refine qS (.bool RB) ?_;refine Z8 ?_;intro wE y;have G:=Zh (aF U.o y);clear y;go_wp2;go_ret;exact⟨Qd F.o.symm,G.o⟩
theorem ad8(f:aC)(ts:List af)(q:ae)(n:ah)(ao:Option Addr)(cap:Nat)(ps:List aH)(w:World)(ok:Ok ts q)(hf:f.At ts q w)(hcl:n.cl.At w)(hco:n.co.At w)(hcap:n.co.xs.length<=n.co.cap)(hp:PartsAt w ao ps)(hk:n.kind=10)(hl:ps.length=arity n.kind) :
  Cb 65 #[.agg (f.cells ts q),.agg n.cells,.slice ao ps.length cap] w (.bool (dh ts q n (ps.getD 0 bE).d (ps.getD 1 bE).d)):=by
 obtain⟨v0,v1,v2,v3,v4,v5,v6,v7,v8,v9,P,Q,S,s,B,C,D,E,F,G,i,-⟩:=Z6 f ts q;have t:n.cells=#[.int .i64 n.kind,.int .i64 n.l,.int .i64 n.r,.int .i64 n.source,n.cl.val,.int .i64 n.key,n.co.val]:=rfl;obtain⟨T,H,j,g⟩:=bn w ((f.cells ts q)) 68;obtain⟨w2,I,k,m⟩:=bn T n.cells 75;have a:=k;have b:=aF j a;have J:=g.of (a.block _ g.lt);have K:=m;obtain⟨kS,mG,mH,oN,lI,oO,oP⟩:=K.k7;obtain⟨eT,fI,eQ,fD,fJ,fQ,U,iK,iI,iJ,dR,eH,dS⟩:=J.k13 (by rw[s]; rfl);have O:=hp.1;have u:ps.length=1:=by rw[hl,hk]; rfl
 have M:=Zh b;obtain⟨p,e⟩:∃ R,R=dh ts q n (ps.getD 0 bE).d (ps.getD 1 bE).d:=⟨_,rfl⟩;rw[<- e];unfold dh at e;rw[Qu (by rw[hk]; decide),Qu (by rw[hk]; decide),Qu (by rw[hk]; decide),Qu (by rw[hk]; decide),Qu (by rw[hk]; decide),Qu (by rw[hk]; decide),Qu (by rw[hk]; decide),Qu (by rw[hk]; decide),Qu (by rw[hk]; decide)]at e;have v:0<ps.length:=by omega
 obtain⟨⟨pb,po,rfl,V,W,X,Y,Z,c5⟩,aa⟩:=(ZC b hp).2 0 v;rw[Z7,ZG]at V W X Y Z c5;generalize ps.getD 0 bE=L at *;generalize ps.getD 1 bE=R at *;have e:=e;rw[i]at U;have y:=Zh e;rw[s,t];rw[s]at H;rw[t]at I;clear e g m J K j k b a u hl;clear hf hcl hco hcap hp ok s t B C D E F G i;obtain⟨nk,nl,nr,ns,⟨ca,cc,cl⟩,key,⟨da,dc,co⟩⟩:=n;simp only at hk;subst hk;simp only[aH.cells,ah.cells,ai.val]at *;generalize q.ord.xs.length=N at *;by_cases z:0<N
 ·have A:Hid (p=true):=by grind
  clear y;go_enter Tryz.func65,Tryz.ntmps65;go_wp2;go_ret;exact⟨Qd A.o.symm,M.o⟩
 ·have A:Hid (p=false):=by show _=_; rw[y.o,ZW z]
  have z0:N=0:=by omega
  clear y;go_enter Tryz.func65,Tryz.ntmps65;go_wp2;go_ret;exact⟨Qd A.o.symm,M.o⟩
theorem ad9(f:aC)(ts:List af)(q:ae)(n:ah)(ao:Option Addr)(cap:Nat)(ps:List aH)(w:World)(ok:Ok ts q)(hf:f.At ts q w)(hcl:n.cl.At w)(hco:n.co.At w)(hcap:n.co.xs.length<=n.co.cap)(hp:PartsAt w ao ps)(hk1:1<=n.kind)(hk10:n.kind<=10)(hl:ps.length=arity n.kind) :
  Cb 65 #[.agg (f.cells ts q),.agg n.cells,.slice ao ps.length cap] w (.bool (dh ts q n (ps.getD 0 bE).d (ps.getD 1 bE).d)):=by
 rcases (by omega:n.kind=1∨n.kind=2∨n.kind=3∨n.kind=4∨n.kind=5∨n.kind=6∨n.kind=7∨n.kind=8∨n.kind=9∨n.kind=10) with h | h | h | h | h | h | h | h | h | h
 ·exact ag7 f ts q n ao cap ps w ok hf hcl hco hcap hp h hl
 ·exact ag8 f ts q n ao cap ps w ok hf hcl hco hcap hp h hl
 ·exact ag9 f ts q n ao cap ps w ok hf hcl hco hcap hp h hl
 ·exact ahi f ts q n ao cap ps w ok hf hcl hco hcap hp h hl
 ·exact ahj f ts q n ao cap ps w ok hf hcl hco hcap hp h hl
 ·exact ahk f ts q n ao cap ps w ok hf hcl hco hcap hp h hl
 ·exact ahl f ts q n ao cap ps w ok hf hcl hco hcap hp h hl
 ·exact ahm f ts q n ao cap ps w ok hf hcl hco hcap hp h hl
 ·exact ahn f ts q n ao cap ps w ok hf hcl hco hcap hp h hl
 ·exact ad8 f ts q n ao cap ps w ok hf hcl hco hcap hp h hl
structure jr(ts:List af)(q:ae)(pl:List ah)(w:World)(ps:List aH):Prop where
 eq:je ts q pl ps.length=some (ps.map aH.d)
 ok:∀ i,i<ps.length->(ps.getD i bE).Ok w
 small:∀ i,i<ps.length->(ps.getD i bE).sources<2 ^ q.src.xs.length/\(ps.getD i bE).clauses<2 ^ q.wh.length
theorem jr.nil(ts:List af)(q:ae)(pl:List ah)(w:World):jr ts q pl w []:=⟨rfl,λi a=>absurd a (by simp),λi a=>absurd a (by simp)⟩
theorem Ou{i:Nat}(hi:i<(ps++[p]).length):(i<ps.length/\(ps++[p]).getD i bE=ps.getD i bE)∨(i=ps.length/\(ps++[p]).getD i bE=p):=by grind
theorem U5(w:World):bE.Ok w:=⟨⟨by simp[bE],λi a=>absurd a (by simp[bE])⟩,Qn _,QK _,QK _,QK _,QK _⟩
theorem jr.ins(h:jr ts q pl w ps)(n:ah)(hm:∀ m,m<(aV n).length->0<=(aV n).getD m 0/\(aV n).getD m 0<(ps.length:Int)) :
  ∀ i,i<(fE n ps).length->((fE n ps).getD i bE).Ok w/\((fE n ps).getD i bE).sources<2 ^ q.src.xs.length/\((fE n ps).getD i bE).clauses<2 ^ q.wh.length:=λi b=>by
 rw[vK]at b;have e:(fE n ps).getD i bE=ps.getD ((aV n).getD i 0).toNat bE:=by unfold fE; simp[List.getD,b]
 have d:=hm i b;rw[e];have a:((aV n).getD i 0).toNat<ps.length:=by omega
 exact⟨h.ok _ a,h.small _ a⟩
theorem jr.step(h:jr ts q pl w ps)(hn:pl.getD ps.length nz=n)(hm:∀ m,m<(aV n).length->0<=(aV n).getD m 0/\(aV n).getD m 0<(ps.length:Int))(hf:(lL n.kind (fE n ps)&&dh ts q n ((fE n ps).getD 0 bE).d ((fE n ps).getD 1 bE).d)=true)
  (hd:p.d=bV ts q n ((fE n ps).getD 0 bE).d ((fE n ps).getD 1 bE).d) (hs:p.sources<2 ^ q.src.xs.length) (hc:p.clauses<2 ^ q.wh.length) {W:World} (hk:p.Ok W) (ho:p.order=n.co∨p.order=((fE n ps).getD 0 bE).order∨p.order=⟨none,0,[]⟩) (hco:n.co.At w) (hcap:n.co.xs.length<=n.co.cap) :
  jr ts q pl w (ps++[p]):=by
 have a:p.order.At w/\p.order.xs.length<=p.order.cap:=by
  rcases ho with e | e | e
  ·rw[e]; exact⟨hco,hcap⟩
  ·rw[e];by_cases f:0<(fE n ps).length
   ·have:=(h.ins n hm 0 f).1; exact⟨this.order,this.cap⟩
   ·have g:(fE n ps).getD 0 bE=bE:=by simp[List.getD,f]
    rw[g]; exact⟨(U5 w).order,(U5 w).cap⟩
  ·rw[e]; exact⟨⟨by simp,λi b=>absurd b (by simp)⟩,Qn _⟩
 refine⟨?_,λi b=>?_,λi b=>?_⟩
 ·rw[QP]
  show (je ts q pl ps.length).bind _=_;rw[h.eq,hn];show oI ts q n _=_;rw[step_eq,Qo hf,Qi,<- hd];rfl
 ·rcases Ou b with⟨hl,e⟩ | ⟨_,e⟩ <;> rw[e]
  ·exact h.ok i hl
  ·exact⟨a.1,a.2,hk.sources,hk.clauses,hk.size,hk.cost⟩
 ·rcases Ou b with⟨hl,e⟩ | ⟨_,e⟩ <;> rw[e]
  ·exact h.small i hl
  ·exact⟨hs,hc⟩
theorem jr.fail(h:jr ts q pl w ps)(hn:pl.getD ps.length nz=n)(hl:ps.length<pl.length)(hp:eG pl=true)(hf:(lL n.kind (fE n ps)&&dh ts q n ((fE n ps).getD 0 bE).d ((fE n ps).getD 1 bE).d)=false):iU ts q pl=none:=by
 have e:je ts q pl (ps.length+1)=none:=by show (je ts q pl ps.length).bind _=_;rw[h.eq,hn];show oI ts q n _=_;rw[step_eq,Qu (by rw[hf]; simp)]
 unfold iU;rw[Qu (by rw[hp]; simp),FM e pl.length (by omega)];rfl
theorem jr.last(h:jr ts q pl w ps)(hl:ps.length=pl.length)(hp:eG pl=true) :
  iU ts q pl=if (dW (pl.getD (pl.length-1) nz).kind&&gL q (pl.getD (pl.length-1) nz).kind (ps.getD (pl.getD (pl.length-1) nz).l.toNat bE).order.xs)=true then some (ps.map aH.d) else none:=by unfold iU;rw[Qu (by rw[hp]; simp),<- hl,h.eq];simp only[Option.bind_some];have e:((ps.map aH.d).getD (pl.getD (ps.length-1) nz).l.toNat pz)=(ps.getD (pl.getD (ps.length-1) nz).l.toNat bE).d:=vL aH.d ps _ bE;rw[e];rfl
theorem jr.nine(h:jr ts q pl w ps)(hl:ps.length=pl.length)(h1:1<=pl.length)(hk:(pl.getD (pl.length-1) nz).kind=9):q.group=false:=by
 have e:ps.length=(pl.length-1)+1:=by omega
 have g:=h.eq;rw[e]at g;have a:(je ts q pl (pl.length-1)).bind (oI ts q (pl.getD (pl.length-1) nz))=some (ps.map aH.d):=g
 cases h4:je ts q pl (pl.length-1) with
 | none => rw[h4]at a; cases a
 | some ds =>
  rw[h4]at a;have f:oI ts q (pl.getD (pl.length-1) nz) ds=some (ps.map aH.d):=a;unfold oI at f;split at f
  ·rename_i b
   rw[Qj]at b;have b:=b.2;unfold dh at b;grind
  ·cases f
theorem aea(f:aC)(ts:List af)(q:ae)(po:Option Addr)(pc:Nat)(pl:List ah)(w0 w:World)(hb0:Bw w0 w)(ok:Ok ts q)(hf:f.At ts q w)(hn0:kI w0 po pl)(hsh:dn w 0)(hcap:∀ i,i<pl.length->(pl.getD i nz).co.xs.length<=(pl.getD i nz).co.cap)
  (hgr:q.group=false->di q.ord.xs q.bA.xs.length=true) (aho:q.ord.xs.length<=1000) :
  Calls Tryz.prog 36 #[.agg (f.cells ts q),.slice po pl.length pc] w (λe w'=>Bw w w'/\((∃ ds,iU ts q pl=some ds/\∃ (ao:Option Addr) (cap:Nat) (ps:List aH),e=.returned (.tuple #[.slice ao ps.length cap,.bool true])/\PartsAt w' ao ps/\ps.map aH.d=ds/\(∀ a,ao=some a->w.heap.size<=a.block)/\∀ i,i<ps.length->(ps.getD i bE).Ok w0)∨(iU ts q pl=none/\e=.returned (.tuple #[.slice none 0 0,.bool false])))):=by
 obtain⟨LK,PI⟩:=eY (iU ts q pl);rw[<- PI];obtain⟨v0,v1,v2,v3,v4,v5,v6,v7,v8,v9,dm,dw,dx,bR,dz,dA,dB,dC,dD,dE,dF,-⟩:=Z6 f ts q;have bF:Hid (q.cells=#[v0,v1,v2,v3,v4,v5,v6]):=by show _=_; rw[dz,dA,dB,dC,dD,dE,dF]; rfl
 clear dz dA dB dC dD dE dF;obtain⟨w1,dG,A,dH⟩:=bn w ((f.cells ts q)) 68;have F:=A;have fH:=dH;obtain⟨eT,fI,eQ,fD,fJ,fQ,fM,iK,iI,iJ,dR,eH,dS⟩:=fH.k13 (by rw[bR]; rfl);have G:=hn0.below hb0;have aB:=Zh hb0;have eu:=hd hn0;clear hb0 hn0;have fZ:=G.1;have N:=TM po pc pl w1 (G.below F) (hsh.below F);rw[bR]at dG;rw[bR];have DX:=Zh bR;have HC:=Zh F;clear dH fH A
 cases hip:eG pl with
 | false =>
  have O:Hid (LK=none):=by show _=_; rw[PI]; unfold iU; rw[Qo hip]
  rw[hip]at N;clear hip PI hf G hsh hcap hgr ok DX;go_enter Tryz.func36,Tryz.ntmps36;go_wp2_with fail;refine N.mono ?_;rintro e w2 ⟨rfl,J⟩;have HB:=Zh (aF HC.o J);clear J;go_wp2;go_ret2;exact⟨HB.o,.inr ⟨O.o,rfl⟩⟩
 | true =>
 rw[hip]at N;obtain⟨fC,gu,dI⟩:=ad4 hip;obtain⟨i0,hi,dJ,dK,dL⟩:=Zv Tryz.Mw;have bG:Hid (∀ x:World,w1.heap.size<=x.heap.size->∃ w',(Instr.makeSlice 69 (.int .i64 0) (.int .i64 (pl.length:Int))).run Tryz.prog x=.ok (.slice (some (aD x.heap.size 0)) 0 pl.length) w'/\w'.ownsRow w1.heap.size 73 6 (.slice (some (aD x.heap.size 0)) 0 pl.length) 0 []/\Bw x w'):=λx k=>by obtain⟨w',h1,h2,h3⟩:=run_make_own (P:=Tryz.prog) x w1.heap.size 69 73 i0 _ 6 Tryz.underlying69 hi dJ dK .i64 .i64 pl.length (by rw[dL]; omega) (by unfold maxLen; omega) k;exact⟨w',h1,h2,(Zg (s:=λ_=>True) h3 (λr e=>by cases e)).below (Qn _) (λ_ _=>trivial)⟩
 have aG:=Zh hip;have aI:=Zh dI;have bH:=Zh PI;have HF:=Zh hf;have HN:Hid _:=G;have bI:Hid _:=hsh;have aA:=Zh hcap;have sH:=Zh hgr;have Be:=Zh ok;have bJ:=Zh aho;have BH:=hd F;have rJ:=Zh F.size;clear hip dI PI hf G hsh hcap hgr ok aho bR F hi dJ dK dL;go_enter Tryz.func36,Tryz.ntmps36;go_wp2_with fail;refine N.mono ?_;rintro e w2 ⟨rfl,J⟩;clear N;obtain⟨w3,fF,U,dM⟩:=bG.o w2 J.size;have eB:=hd U;have eD:=Zh (aF J dM);clear J dM U bG dG;go_wp2;clear fF;go_loopw [6,21] (λpv iv wr=>∃ ps:List aH,ps.length<=pl.length/\iv=.int .i64 (ps.length:Int)/\Hid (wr.ownsRow w1.heap.size 73 6 pv ps.length (ps.flatMap aH.list))/\Hid (jr ts q pl w0 ps)/\Hid (Bw w1 wr)) (λ_ iv _=>pl.length-(intOf iv).toNat)
 case atStart=>exact⟨[],QK _,rfl,eB.o,jr.nil _ _ _ _,eD.o⟩
 case round=>
  obtain⟨ps,fG,rfl,av,MC,jo⟩:=hrel;have y:=aF BH.o jo.o;obtain⟨pa,V,rfl,ax⟩:=Bp av.o (by omega) (λi hi=>(MC.o.ok i hi).below (aF aB.o y));by_cases K:ps.length<pl.length
  ·obtain⟨nb,no,aY,m0,m1,m2,m3,m4,m5,m6,dN,dO⟩:=(kI.below y HN.o).2 ps.length K;subst aY;obtain⟨-,-,-,-,-,-,-,-,-,-,C,ay⟩:=HN.o.2 ps.length K;obtain⟨-,-,-,-,-,-,-,-,-,-,-,aZ⟩:=eu.o.2 ps.length K;have Q:=aA.o ps.length K;have Ov:=aI.o ps.length K;obtain⟨n,G⟩:=eX (pl.getD ps.length nz)
   rw[G]at m0 m1 m2 m3 m4 m5 m6 dN dO C ay aZ Q Ov;obtain⟨A,D,E⟩:=FO Ov;have MO:Hid (∀ x,Bw w x->Calls Tryz.prog 63 #[.agg n.cells] x λe w'=>∃ b,e=.returned (.slice (some (aD b 0)) (aV n).length 2)/\aM w' (some (aD b 0)) (aV n)/\x.heap.size<=b/\Bw x w'):=λx k=>zP n x (Xm k bI.o) A D;have aJ:=MC.o.ins n E;have bK:Hid (∀ (x:World) (bs:Nat) (v:Value),Bw w x->x.ownsRow bs 73 6 v (fE n ps).length ((fE n ps).flatMap aH.list)->∃ a c,v=.slice a (fE n ps).length c/\PartsAt x a (fE n ps)):=λx _ v k ho=>Bp ho (by rw[vK]; have:=qQ n; omega) (λi hi=>(aJ i hi).1.below (aF aB.o k));have aK:Hid (∀ (x:World) (a:Option Addr) (c:Nat),PartsAt x a (fE n ps)->Cb 64 #[.int .i64 n.kind,.slice a (fE n ps).length c] x (.bool (lL n.kind (fE n ps)))):=λx a c h=>JZ n.kind a c (fE n ps) x h;have zW:Hid (∀ (x:World) (a:Option Addr) (c:Nat),Bw w x->PartsAt x a (fE n ps)->Cb 65 #[.agg #[v0,v1,v2,v3,v4,v5,v6,v7,v8,v9,dm,dw,dx],.agg n.cells,.slice a (fE n ps).length c] x (.bool (dh ts q n ((fE n ps).getD 0 bE).d ((fE n ps).getD 1 bE).d))):=λx a c k h=>by rw[<- DX.o];exact ad9 f ts q n a c (fE n ps) x Be.o (HF.o.below k) (Ql k C) (Ql k ay) Q h A D (by rw[vK,nL])
   have H:Hid (∀ (x:World) (a:Option Addr) (c:Nat),Bw w x->PartsAt x a (fE n ps)->dh ts q n ((fE n ps).getD 0 bE).d ((fE n ps).getD 1 bE).d=true->lL n.kind (fE n ps)=true->Calls Tryz.prog 66 #[.agg #[v0,v1,v2,v3,v4,v5,v6,v7,v8,v9,dm,dw,dx],.agg n.cells,.slice a (fE n ps).length c] x λe w'=>∃ p:aH,e=.returned (.agg p.cells)/\jr ts q pl w0 (ps++[p])/\Bw x w'):=λx a c k h ek fU=>by rw[<- DX.o];obtain⟨fK,fO⟩:=Rj Ov ek;refine(Ep f ts q n a c (fE n ps) x Be.o (HF.o.below k) (Ql k C) (Ql k ay) Q h A D (by rw[vK,nL]) fK fO (λi hi=>(aJ i hi).2)).mono ?_;rintro e w' ⟨p,he,hd,fP,hs,hc,ho,hb⟩;exact⟨p,he,MC.o.step G E (by rw[fU,ek]; rfl) hd hs hc fP ho aZ Q,hb⟩
   have bL:Hid (∀ M fb,M=lL n.kind (fE n ps)->fb=dh ts q n ((fE n ps).getD 0 bE).d ((fE n ps).getD 1 bE).d->(M&&fb)=false->LK=none):=λM fb e1 e2 h=>by rw[bH.o];exact MC.o.fail G K aG.o (by rw[<- e1,<- e2]; exact h)
   have bM:Hid (∀ m,m<(aV n).length->(fE n ps).take (m+1)=(fE n ps).take m++[ps.getD ((aV n).getD m 0).toNat bE]):=λm hm=>ad5 hm;have eF:=Zh (vK n ps);have eO:=Zh (qQ n);have bN:=Zh E;obtain⟨KB,bf⟩:∃ x,x=lL n.kind (fE n ps):=⟨_,rfl⟩;obtain⟨FB,bg⟩:∃ x,x=dh ts q n ((fE n ps).getD 0 bE).d ((fE n ps).getD 1 bE).d:=⟨_,rfl⟩;have R:=Zh (bL.o KB FB bf bg);rw[<- bf]at aK H;rw[<- bg]at zW H;clear bf bg bL E aJ Ov A D dN dO C ay aZ Q G;generalize fE n ps=IV at *;generalize aV n=L at *;obtain⟨nk,nl,nr,ns,⟨ca,cc,cl⟩,key,⟨da,dc,co⟩⟩:=n;simp only[ah.cells,ai.val]at *;obtain⟨l,DI⟩:∃ x,x=wr:=⟨_,rfl⟩;subst DI;obtain⟨wb,W,M,gn⟩:=bn l #[.int .i64 nk,.int .i64 nl,.int .i64 nr,.int .i64 ns,.slice ca cl.length cc,.int .i64 key,.slice da co.length dc] 75;obtain⟨I,n1,n2,n3,n4,n5,n6⟩:=gn.k7;have bO:=MO.o wb (aF y M);have S:=Zh M;have z:=hd gn;have T:Hid _:=ax;have bP:Hid _:=av;clear ax y M gn MO;go_wp2_with fail;refine bO.mono ?_;rintro e w4 ⟨ib,rfl,bq,fT,dP⟩;clear bO W m0 m1 m2 m3 m4 m5 m6 I n1 n2 n3 n4 n5 n6;have nH:=hd dP;have eP:Hid _:=bq;have gm:=bq.1;clear dP bq fT;go_wp2;go_loopw [9,28] (λqv jv wx=>∃ m:Nat,m<=L.length/\jv=.int .i64 (m:Int)/\Hid (wx.ownsRow w4.heap.size 73 6 qv (IV.take m).length ((IV.take m).flatMap aH.list))/\Hid (Bw w4 wx)) (λ_ jv _=>L.length-(intOf jv).toNat)
   case atStart=>exact⟨0,QK _,rfl,Zu _ _ _ _,Qm _ _⟩
   case round=>
    obtain⟨m,hm,rfl,HQ,rH⟩:=hrel;have zM:=aF S.o (aF nH.o rH.o);by_cases Te:m<L.length
    ·obtain⟨gy,gz,e',dQ⟩:=Qg (Ql rH.o eP.o) Te
     cases e';have aL:=dQ m Te;rw[QL]at aL;obtain⟨az,dU⟩:=bN.o m Te;have UI:=Zh (bM.o m Te);obtain⟨j,hj⟩:=ZV az;rw[hj]at aL dU UI;rw[ZY]at UI;have eU:j<ps.length:=by omega
     obtain⟨⟨pb,B,bu,c0,c1,c2,c3,c4,c5⟩,-⟩:=(ZC zM T.o).2 j eU;subst bu;obtain⟨p,hp⟩:=eY (ps.getD j bE);rw[<- hp]at c0 c1 c2 c3 c4 c5 UI;obtain⟨qa,qm,qc,rfl⟩:=Zk HQ.o;have bQ:=rH.o.size;obtain⟨v',w5,qA,pF,dV,⟨xa,xm,xc,rfl⟩,bz⟩:=Bz wr w4.heap.size (.slice qa qm qc) (IV.take m) HQ.o (by rw[ZZ]; have:=eO.o; omega) bQ p 69;rw[<- UI.o]at pF;have xY:Hid _:=pF;have jl:=Zh (rH.o.trans (dV.below bQ (λb hb e=>by have:=(Zj HQ.o e).1; omega)));obtain⟨pk,ss,cs,⟨oa,nJ,ox⟩,pz,pt⟩:=p;simp only[aH.cells,ai.val]at *;clear hp pF dV bz dQ hj UI HQ rH zM az;go_wp2_with (first | (at_builtin; refine Zt rfl (.tmp 32) (.tmp 37) 69 rfl (.slice qa qm qc) (.slice (some (aD wr.heap.size 0)) 1 1) (.slice xa xm xc) w5 rfl rfl qA ?_));clear qA c0 c1 c2 c3 c4 c5 aL;go_wp2;go_roundw
     case rel=>exact⟨m+1,by omega,by go_num,xY.o,jl.o⟩
     case measure=>simp[intOf]; omega
    ·obtain rfl:m=L.length:=by omega
     rw[ZT (by rw[eF.o]; exact Qn _)]at HQ;obtain⟨w5,vU⟩:∃ x,x=wr:=⟨_,rfl⟩;subst vU;have aa:=aF nH.o rH.o;have aN:=aF S.o aa;have aO:=aF jo.o aN;obtain⟨qa,qc,rfl,bB⟩:=bK.o w5 _ _ (aF BH.o aO) HQ.o;have bS:=aK.o w5 qa qc bB;have I:w5.cell? (aD l.heap.size 0)=some (.int .i64 nk):=cB aa (Qy z.o 0);have bT:Hid _:=bB;have bU:=Zh aO;have bV:=Zh aa;have bW:=Zh aN;clear aa aN aO bB HQ rH bK aK bM bN hm Te;go_wp2_with fail;refine bS.mono ?_;rintro e w6 ⟨rfl,X⟩;clear bS I;have t:=Zh (aF bU.o X);have La:=Zh (aF bV.o X);have bX:=Zh (aF bW.o X);have aP:Hid _:=ZC X bT.o;clear X bT bU bV bW
     cases KB with
     | false =>
      have O:=Zh (R.o rfl);have jF:=Zh (aF BH.o t.o);clear zW H R;go_wp2;go_ret2;exact⟨jF.o,.inr ⟨O.o,rfl⟩⟩
     | true =>
      have bY:=zW.o w6 qa qc (aF BH.o t.o) aP.o;have f0:=cB t.o eT;have f1:=cB t.o fI;have f2:=cB t.o eQ;have f3:=cB t.o fD;have f4:=cB t.o fJ;have f5:=cB t.o fQ;have f6:=cB t.o fM;have f7:=cB t.o iK;have f8:=cB t.o iI;have f9:=cB t.o iJ;have aQ:=cB t.o dR;have aR:=cB t.o eH;have aS:=cB t.o dS;have I:w6.cell? (aD l.heap.size 0)=some (.int .i64 nk):=cB La.o (Qy z.o 0);have n1:w6.cell? (aD l.heap.size 1)=some (.int .i64 nl):=cB La.o (Qy z.o 1);have n2:w6.cell? (aD l.heap.size 2)=some (.int .i64 nr):=cB La.o (Qy z.o 2);have n3:w6.cell? (aD l.heap.size 3)=some (.int .i64 ns):=cB La.o (Qy z.o 3);have n4:w6.cell? (aD l.heap.size 4)=some (.slice ca cl.length cc):=cB La.o (Qy z.o 4);have n5:w6.cell? (aD l.heap.size 5)=some (.int .i64 key):=cB La.o (Qy z.o 5);have n6:w6.cell? (aD l.heap.size 6)=some (.slice da co.length dc):=cB La.o (Qy z.o 6);go_wp2_with fail;refine bY.mono ?_;rintro e w7 ⟨rfl,jD⟩;clear bY f0 f1 f2 f3 f4 f5 f6 f7 f8 f9 aQ aR aS I n1 n2 n3 n4 n5 n6;have u:=Zh (aF t.o jD);have TQ:=Zh (aF La.o jD);have eZ:=Zh (aF bX.o jD);have bZ:Hid _:=ZC jD aP.o;clear jD aP t La bX
      cases FB with
      | false =>
       have O:=Zh (R.o rfl);have jF:=Zh (aF BH.o u.o);clear zW H R;go_wp2;go_ret2;exact⟨jF.o,.inr ⟨O.o,rfl⟩⟩
      | true =>
       have cu:=H.o w7 qa qc (aF BH.o u.o) bZ.o (by trivial) (by trivial);have f0:=cB u.o eT;have f1:=cB u.o fI;have f2:=cB u.o eQ;have f3:=cB u.o fD;have f4:=cB u.o fJ;have f5:=cB u.o fQ;have f6:=cB u.o fM;have f7:=cB u.o iK;have f8:=cB u.o iI;have f9:=cB u.o iJ;have aQ:=cB u.o dR;have aR:=cB u.o eH;have aS:=cB u.o dS;have I:w7.cell? (aD l.heap.size 0)=some (.int .i64 nk):=cB TQ.o (Qy z.o 0);have n1:w7.cell? (aD l.heap.size 1)=some (.int .i64 nl):=cB TQ.o (Qy z.o 1);have n2:w7.cell? (aD l.heap.size 2)=some (.int .i64 nr):=cB TQ.o (Qy z.o 2);have n3:w7.cell? (aD l.heap.size 3)=some (.int .i64 ns):=cB TQ.o (Qy z.o 3);have n4:w7.cell? (aD l.heap.size 4)=some (.slice ca cl.length cc):=cB TQ.o (Qy z.o 4);have n5:w7.cell? (aD l.heap.size 5)=some (.int .i64 key):=cB TQ.o (Qy z.o 5);have n6:w7.cell? (aD l.heap.size 6)=some (.slice da co.length dc):=cB TQ.o (Qy z.o 6);clear zW H R;go_wp2_with fail;refine cu.mono ?_;rintro e w8 ⟨p,rfl,dX,Nf⟩;clear cu f0 f1 f2 f3 f4 f5 f6 f7 f8 f9 aQ aR aS I n1 n2 n3 n4 n5 n6;have cz:=aF eZ.o Nf;have ag:=aF u.o Nf;have wP:=ZM bP.o cz;obtain⟨v',wz,bC,dY,dZ,⟨xa,xm,xc,rfl⟩,bz⟩:=Bz w8 w1.heap.size (.slice pa ps.length V) ps wP (by omega) ag.size p 69;have fe:Hid _:=dY;have fo:=Zh dX;have fq:=Zh (ag.trans (dZ.below ag.size (λb hb e=>by have:=(Zj wP e).1; omega)));have CO:Hid ((ps++[p]).length=ps.length+1):=by show _=_; simp
       have gp:Hid (∀ x:Int,x=((ps++[p]).length:Nat)->Value.int .i64 x=.int .i64 ((ps++[p]).length:Int)):=λx h=>by rw[h]
       obtain⟨pk,ss,cs,⟨oa,nJ,ox⟩,pz,pt⟩:=p;simp only[aH.cells,ai.val]at bC;simp only[aH.cells,ai.val];clear dY dZ bz dX wP cz ag Nf av MC jo bP T bZ;go_wp2_with (first | (at_builtin; refine Zt rfl (.tmp 52) (.tmp 57) 69 rfl (.slice pa ps.length V) (.slice (some (aD w8.heap.size 0)) 1 1) (.slice xa xm xc) wz rfl rfl bC ?_));clear bC;go_wp2;go_roundw
       case rel=>
        refine⟨ps++[aH.mk pk ss cs ⟨oa,nJ,ox⟩ pz pt],by rw[CO.o]; omega,?_,fe.o,fo.o,fq.o⟩;rw[CO.o];go_num
       case measure=>simp[intOf]; omega
  ·have aT:ps.length=pl.length:=by omega
   obtain⟨Y,gB⟩:∃ Y,pl.length=Y+1:=⟨pl.length-1,by omega⟩;have eN:pl.length-1=Y:=by omega
   have cK:Y<pl.length:=by omega
   obtain⟨nb,no,aY,m0,m1,m2,m3,m4,m5,m6,-,-⟩:=(kI.below y HN.o).2 Y cK;subst aY;have Ov:=aI.o Y cK;have aj:=MC.o.last aT aG.o;have aU:Hid ((pl.getD Y nz).kind=9->q.group=false):=λh9=>MC.o.nine aT fC (by rw[eN]; exact h9);rw[<- bH.o,eN]at aj;have cO:=Zh MC.o.ok;have fu:=Zh MC.o.ok;have fw:Hid (∀ a,pa=some a->w.heap.size<=a.block):=λa e=>by subst e; have:=(Zj av.o (g:=a.block) rfl).1; have:=rJ.o; omega
   obtain⟨n,G⟩:=eX (pl.getD Y nz);rw[G]at m0 m1 m2 m3 m4 m5 m6 Ov aU aj;have uj:Hid _:=@TP n Y Ov;obtain⟨l,DI⟩:∃ x,x=wr:=⟨_,rfl⟩;subst DI;have ak:Hid (∀ x,Cb 67 #[.int .i64 n.kind] x (.bool (dW n.kind))):=λx=>(zC n.kind x).mono (λe w' h=>⟨h.1,by rw[h.2]; exact Qm _ _⟩);have aW:Hid (∀ (o:ai) (x:World),Bw w x->o.At x->o.xs.length<=o.cap->Cb 68 #[.agg #[v0,v1,v2,v3,v4,v5,v6],.int .i64 n.kind,.slice o.ad o.xs.length o.cap] x (.bool (gL q n.kind o.xs))):=λo x k ho fV=>by rw[<- bF.o];exact zI q n.kind o.ad o.cap o.xs x (HF.o.query.below k) ⟨λh9=>sH.o (aU.o h9),bJ.o⟩ ho fV
   have Z:=Zh aj;have fA:Hid (ps.length=Y+1):=by show _=_; omega
   have gq:¬ (ps.length:Int)<(Y:Int)+1:=by omega
   have T:Hid _:=ax;clear aj G Ov eN aU ax aI aA bI HF sH aG bJ bF aT fG;obtain⟨nk,nl,nr,ns,⟨ca,cc,cl⟩,key,⟨da,dc,co⟩⟩:=n;simp only[ah.cells,ai.val]at *;obtain⟨wb,W,M,gn⟩:=bn l #[.int .i64 nk,.int .i64 nl,.int .i64 nr,.int .i64 ns,.slice ca cl.length cc,.int .i64 key,.slice da co.length dc] 75;obtain⟨I,n1⟩:=gn.k2;have S:=hd M;have CR:=Zh (aF y M);have Ow:=aF jo.o M;have h0:=cB Ow eT;have h1:=cB Ow fI;have h2:=cB Ow eQ;have h3:=cB Ow fD;have h4:=cB Ow fJ;have h5:=cB Ow fQ;have h6:=cB Ow fM;clear gn M y Ow;obtain⟨OB,bD⟩:∃ x,x=dW nk:=⟨_,rfl⟩;rw[<- bD]at ak Z uj
   cases OB with
   | false =>
    have O:Hid (LK=none):=by show _=_; rw[Z.o]; rfl
    clear Z aW uj bD;go_upto_region 18 with fail;clear W m0 m1 m2 m3 m4 m5 m6;refine Qq (by kernel_rfl) (by kernel_rfl) ?_;refine qS (.pointer (some (aD l.heap.size 0))) ?_;refine qC (.int .i64 nk) I ?_;go_big_quiet_want;refine⟨.bool false,λx k=>?_,?_⟩
    ·have hC:=Qr k (ak.o x);go_simp
    simp only[pU];go_big_quiet_on;refine qS (.bool true) ?_;go_big_quiet_want;refine⟨.bool true,λx k=>?_,?_⟩
    ·go_simp
    simp only[pU];go_big_quiet_on;go_big_quiet_skip;try simp only[pU]
    iterate 11 (go_big_quiet_skip; try simp only[pU])
    refine qS (.bool true) ?_;refine Z8 ?_;intro wE oC;have jF:=Zh (aF CR.o oC);clear oC;go_wp2;go_ret2;exact⟨jF.o,.inr ⟨O.o,rfl⟩⟩
   | true =>
    obtain⟨az,dU⟩:=uj.o rfl;obtain⟨j,hj⟩:=ZV az;subst hj;have cZ:j<ps.length:=by have:=fA.o; omega
    rw[ZY]at Z;obtain⟨⟨pb,B,bu,-,-,-,c3,-,-⟩,-⟩:=(ZC S.o T.o).2 j cZ;subst bu;have aX:=cO.o j cZ;obtain⟨o,ho⟩:∃ o,o=(ps.getD j bE).order:=⟨_,rfl⟩;have au:∀ x,Bw wb x->Cb 68 #[.agg #[v0,v1,v2,v3,v4,v5,v6],.int .i64 nk,.slice o.ad o.xs.length o.cap] x (.bool (gL q nk o.xs)):=λx k=>aW.o o x (aF CR.o k) (by rw[ho]; exact Ql (aF aB.o (aF CR.o k)) aX.order) (by rw[ho]; exact aX.cap);rw[<- ho]at c3 Z;clear ho aX aW uj bD cO;obtain⟨EB,ed⟩:∃ x,x=gL q nk o.xs:=⟨_,rfl⟩;rw[<- ed]at au Z;clear ed;obtain⟨oa,nJ,ox⟩:=o;simp only[ai.val]at c3 au;have df:=Zh au;clear au
    cases EB with
    | false =>
     have O:Hid (LK=none):=by show _=_; rw[Z.o]; rfl
     clear Z;go_upto_region 18 with fail;clear W m0 m1 m2 m3 m4 m5 m6;refine Qq (by kernel_rfl) (by kernel_rfl) ?_;refine qS (.pointer (some (aD l.heap.size 0))) ?_;refine qC (.int .i64 nk) I ?_;go_big_quiet_want;refine⟨.bool true,λx k=>?_,?_⟩
     ·have hC:=Qr k (ak.o x);go_simp
     simp only[pU];go_big_quiet_on;refine qS (.bool false) ?_;refine qS (.bool false) ?_;refine qS (.pointer (some (aD w.heap.size 0))) ?_;go_big_quiet_want;refine⟨.agg #[v0,v1,v2,v3,v4,v5,v6],λx k=>?_,?_⟩
     ·have e0:=LA k h0 h1 h2 h3 h4 h5 h6;go_simp
     simp only[pU];go_big_quiet_on;refine qS (.pointer (some (aD l.heap.size 0))) ?_;refine qC (.int .i64 nk) I ?_;refine qS (.slice (some (aD pb B)) ps.length V) ?_;refine qS (.pointer (some (aD l.heap.size 1))) ?_;refine qC (.int .i64 (j:Int)) n1 ?_;refine qS (.pointer (some (aD pb (B+j*6)))) ?_;refine qS (.pointer (some (aD pb (B+j*6+3)))) ?_;refine qC (.slice oa ox.length nJ) c3 ?_;go_big_quiet_want;refine⟨.bool false,λx k=>?_,?_⟩
     ·have hC:=Qr k (df.o x k);go_simp
     simp only[pU];go_big_quiet_on;refine qS (.bool true) ?_;refine qS (.bool true) ?_;refine Z8 ?_;intro wE oC;have jF:=Zh (aF CR.o oC);clear oC;go_wp2;go_ret2;exact⟨jF.o,.inr ⟨O.o,rfl⟩⟩
    | true =>
     have O:Hid (LK=some (ps.map aH.d)):=by show _=_; rw[Z.o]; rfl
     clear Z;go_upto_region 18 with fail;clear W m0 m1 m2 m3 m4 m5 m6;refine Qq (by kernel_rfl) (by kernel_rfl) ?_;refine qS (.pointer (some (aD l.heap.size 0))) ?_;refine qC (.int .i64 nk) I ?_;go_big_quiet_want;refine⟨.bool true,λx k=>?_,?_⟩
     ·have hC:=Qr k (ak.o x);go_simp
     simp only[pU];go_big_quiet_on;refine qS (.bool false) ?_;refine qS (.bool false) ?_;refine qS (.pointer (some (aD w.heap.size 0))) ?_;go_big_quiet_want;refine⟨.agg #[v0,v1,v2,v3,v4,v5,v6],λx k=>?_,?_⟩
     ·have e0:=LA k h0 h1 h2 h3 h4 h5 h6;go_simp
     simp only[pU];go_big_quiet_on;refine qS (.pointer (some (aD l.heap.size 0))) ?_;refine qC (.int .i64 nk) I ?_;refine qS (.slice (some (aD pb B)) ps.length V) ?_;refine qS (.pointer (some (aD l.heap.size 1))) ?_;refine qC (.int .i64 (j:Int)) n1 ?_;refine qS (.pointer (some (aD pb (B+j*6)))) ?_;refine qS (.pointer (some (aD pb (B+j*6+3)))) ?_;refine qC (.slice oa ox.length nJ) c3 ?_;go_big_quiet_want;refine⟨.bool true,λx k=>?_,?_⟩
     ·have hC:=Qr k (df.o x k);go_simp
     simp only[pU];go_big_quiet_on;refine qS (.bool false) ?_;refine qS (.bool false) ?_;refine Z8 ?_;intro wE oC;have jF:=Zh (aF CR.o oC);have fB:Hid _:=ZC (aF S.o oC) T.o;clear oC;go_wp2;go_ret2;exact⟨jF.o,.inl ⟨_,O.o,_,V,ps,rfl,fB.o,rfl,fw.o,fu.o⟩⟩
