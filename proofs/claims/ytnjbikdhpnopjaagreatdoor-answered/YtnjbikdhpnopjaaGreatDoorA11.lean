import Derived.Test.YtnjbikdhpnopjaaGreatDoorA05
set_option linter.all false
set_option maxRecDepth 100000
set_option maxHeartbeats 0
namespace Go.Proofs.Zz
open Go.RowKit Go.Shelf
open List renaming length->N,getD->E
open Go.Value renaming slice->Z,int->I,bool->Wl,agg->FL
open Option renaming some->O
open Go.IntKind renaming i64->J,u64->Vo
open Bool renaming false->F,true->T
open Go renaming World->U
open Go.RowKit renaming Hid->Y3
open Go.World renaming cell?->UK
theorem zO(f:aF)(ts:List ah)(q:af)(b:Nat)(c:Int)(w:U)(ok:Ok ts q)(hf:iU w f.ca (jm ts q))(h0:UK w (aD b 0)=O (I J c))(hc:jI ts q [c]) :
  Cb 97 #[FL (f.cells ts q),Z (O (aD b 0)) 1 1] w (I Vo ((2 ^ aC ts q.src.xs c:Nat):Int)):=by
 have h:=tX f ts q (O (aD b 0)) 1 [c] w ok hf ⟨by simp,λi a=>⟨b,0,rfl,by
  grind⟩⟩ hc
 have e:aO (iw ts q [c])=2 ^ aC ts q.src.xs c:=wS _;rw[e]at h;exact h
def nR(f:aF)(ts:List ah)(q:af)(n:ai)(l r:aG)(w:U)(ok:Ok ts q)(hf:f.At ts q w)(hn:n.cl.At w)(hl:l.sources<=bJ)(hr:r.sources<=bJ) :
  Cb 160 #[FL (f.cells ts q),FL n.cells,FL l.cells,FL r.cells] w (.tuple #[I J (ll ts q n l.sources r.sources).1,I J (ll ts q n l.sources r.sources).2.1,Wl (ll ts q n l.sources r.sources).2.2]):=by
 obtain⟨v0,v1,v2,v3,v4,v5,v6,v7,v8,v9,bV,bW,bX,cK,-,bL,-⟩:=X9 f ts q;obtain⟨w1,au,aS,av⟩:=aL w ((f.cells ts q)) 90;obtain⟨w2,bM,aT,ax⟩:=aL w1 n.cells 102;obtain⟨w3,bN,aU,ay⟩:=aL w2 l.cells 100;obtain⟨w4,bO,aV,aX⟩:=aL w3 r.cells 100;have R:=aV;have S:=az aU R;have W:=az aT S;have v:=az aS W;have jJ:=av.of (W.block _ av.lt);have qU:=ax.of (S.block _ ax.lt);have qg:=qU.at 4;have rZ:=qU.at 5;have aK:=ay.of (R.block _ ay.lt);have Sn:=aK.at 1;have aM:=aX;have Sq:=aM.at 1;obtain⟨fZ,iy,jd,iK,iL,je,jf,jR,jy,jA,dS,eP,dU⟩:=jJ.oh (by rw[cK];rfl);have aN:l.sources<18446744073709551616:=by unfold bJ at hl;omega
 have aO:r.sources<18446744073709551616:=by unfold bJ at hr;omega
 have aP:Y3 _:=Cf n.cl.ad n.cl.cap n.cl.xs n.key w4 (Qo v hn);have D:Y3 (ll ts q n l.sources r.sources=if n.key∈n.cl.xs/\0<=n.key/\n.key<N q.wh then GA ts q.src.xs (E q.wh n.key.toNat lz).cs l.sources r.sources else (0,0,F)):=rfl;have B:Y3 (∀x b c,Bw w4 x->UK x (aD b 0)=O (I J c)->jI ts q [c]->Cb 97 #[FL (f.cells ts q),Z (O (aD b 0)) 1 1] x (I Vo ((2 ^ aC ts q.src.xs c:Nat):Int))):=
  λx b c hb L hc=>zO f ts q b c x ok (hf.cols.below (az v hb)) L hc
 have X:Y3 (∀c,jI ts q [c]->2 ^ aC ts q.src.xs c<18446744073709551616):=λc hc=>by obtain⟨L,h1⟩:=hc c (by simp);exact XO (n:=64) (by omega) (QA (Hz ok L h1) ok.small)
 have j:Y3 (∀x m,m<18446744073709551616->_):=λx m hm=>oQ l.sources m aN hm x;have J8:Y3 (∀x m,m<18446744073709551616->_):=λx m hm=>oQ r.sources m aO hm x;have Ii:Y3 (∀k,k<N q.wh->(∃b off,q.gI=O (aD b off)/\UK w4 (aD b (off+k))=O (Z (E q.wh k lz).ad (E q.wh k lz).cs.length (E q.wh k lz).cap))/\aW w4 (E q.wh k lz).ad (E q.wh k lz).cs/\0<(E q.wh k lz).cs.length):=λk G=>by have hW:=hf.query.wh.below v;obtain⟨b,off,e,hc⟩:=hW.2.1 k G;exact⟨⟨b,off,e,hc⟩,hW.2.2 k G,ok.some k G⟩
 have y:Y3 (∀k,k<N q.wh->_):=λk G=>@Mh ts q ok k G;have bU:=hf.query.wh.1;have HC:=Zh v;rw[cK]at B au ⊢;subst bL;obtain⟨nk,nl,nr,ns,⟨na,nc,nx⟩,ny,no⟩:=n;unfold ae.val at*;simp only at*;generalize bS:ll ts q _ l.sources r.sources=KV at*;clear bS;generalize ai.cells _=NC at*;generalize l.cells=LC at*;generalize r.cells=RC at*;generalize l.sources=a at*;generalize r.sources=b at*;clear v W S R aS aT aU aV av ax ay aX jJ qU aK aM hf ok hn hl hr aN aO cK;have u:=aP.o;clear aP;by_cases A:ny∈nx
 .rw[Qx A]at u;by_cases L:ny<0
  .obtain rfl:KV=(0,0,F):=by rw[D.o,ZU (λh=>absurd h.2.1 (by omega))]
   clear D B j J8 Ii y X;go_enter Tryz.func160,Tryz.ntmps160;go_wp2_with fail;refine XX u ?_;clear u;rintro e w5 ⟨rfl,rfl⟩;go_wp2;go_ret3;exact⟨rfl,HC.o⟩
  by_cases h1:(N q.wh:Int)<=ny
  .obtain rfl:KV=(0,0,F):=by rw[D.o,ZU (λh=>absurd h.2.2 (by omega))]
   clear D B j J8 Ii y X;go_enter Tryz.func160,Tryz.ntmps160;go_wp2_with fail;refine XX u ?_;clear u;rintro e w5 ⟨rfl,rfl⟩;go_wp2;go_ret3;exact⟨rfl,HC.o⟩
  obtain⟨k,rfl⟩:=XT (show 0<=ny by omega);have G:k<N q.wh:=by omega
  have t:=Zh D.o;rw[Zt ⟨A,by omega,by omega⟩,Xk,afx]at t;obtain⟨⟨qb,qo,aY,bP⟩,z,P⟩:=Ii.o k G;have aa:=Zh (y.o k G);rw[aY]at iy B au ⊢;have C:=uI (E q.wh k lz).ad (E q.wh k lz).cap (E q.wh k lz).cs w4 z P;clear D Ii y z P aY A;generalize (E q.wh k lz).cap=dE at*;generalize (E q.wh k lz).ad=lQ at*;generalize (E q.wh k lz).cs=cs at*;generalize bQ cs=EC at*;obtain⟨EL,ER,EB⟩:=EC;simp only at*;generalize bT:N q.wh=nw at*;clear bT
  cases EB with
  |false =>
   obtain rfl:KV=(0,0,F):=by rw[t.o,Zt rfl]
   clear t B j J8 aa X;go_enter Tryz.func160,Tryz.ntmps160;go_wp2_with fail;refine XX u ?_;clear u;rintro e w5 ⟨rfl,rfl⟩;go_wp2_with fail;refine XX C ?_;clear C;rintro e w6 ⟨rfl,i⟩;have xJ:=Zh (az HC.o i);clear i;go_wp2;go_ret3;exact⟨rfl,xJ.o⟩
  |true =>
   obtain⟨aA,aB⟩:=aa.o rfl;have ag:=X.o EL aA;have aj:=X.o ER aB;have zk:Y3 (∀x b,_->_->_):=λx b hb L=>B.o x b EL hb L aA;have ak:Y3 (∀x b,_->_->_):=λx b hb L=>B.o x b ER hb L aB;rw[ZU (by simp)]at t;generalize 2 ^ aC ts q.src.xs EL=SL at*;generalize 2 ^ aC ts q.src.xs ER=SR at*;have aQ:Y3 (∀x,_):=λx=>j.o x SL ag;have aR:Y3 (∀x,_):=λx=>j.o x SR aj;have bK:Y3 (∀x,_):=λx=>J8.o x SL ag;have vR:Y3 (∀x,_):=λx=>J8.o x SR aj;generalize aZ a SL=AL at*;generalize aZ a SR=AR at*;generalize aZ b SL=BL at*;generalize aZ b SR=BR at*;clear aa X B j J8 aA aB ag aj;go_enter Tryz.func160,Tryz.ntmps160;go_wp2_with fail;refine XX u ?_;clear u;rintro e w5 ⟨rfl,rfl⟩;go_wp2_with fail;refine XX C ?_;clear C au bM bN bO;rintro e w6 ⟨rfl,i⟩;obtain⟨bf,bg,bn,bq,bu,bz,bA,bB⟩:=wK i Sn Sq fZ iy jd iK iL je;obtain⟨bC,bD,bE,bF,bG⟩:=qA i jf jR jy jA dS;obtain⟨bH,bI⟩:=nH i eP dU;obtain⟨xJ,aH⟩:=aJ i (az HC.o i);clear i bP qg rZ Sn Sq fZ iy jd iK iL je jf jR jy jA dS eP dU;go_upto_region 6 with fail;go_cut [48] from 49 to 64 (λc wx=>c=Wl (AL&&BR)/\Bw w6 wx)
   case first=>
    cases AL with
    |true =>
     refine wH w6 λd=>?_;refine wA4 0 d ?_;refine wR 4 λK g=>?_;go_simp;refine oA g d λd=>?_;clear g K;refine wR 5 λK g=>?_;go_simp;refine XX (zk.o _ w6.heap.size (az xJ.o d) (by simp)) ?_;rintro e wy ⟨rfl,p⟩;refine oT g d p λd=>?_;clear g K;refine wR 6 λK g=>?_;go_simp;refine XX (aQ.o _) ?_;rintro e wz ⟨rfl,rfl⟩;refine g.o _ _ d λd=>?_;clear g K;refine wR 7 λK g=>?_;go_simp;refine g.o _ _ d λd=>?_;clear g K;refine wA4 8 d ?_;refine wR 12 λK g=>?_;go_simp;refine oA g d λd=>?_;clear g K;refine wR 13 λK g=>?_;go_simp;refine XX (ak.o _ wz.heap.size (az xJ.o d) (by simp)) ?_;rintro e wu ⟨rfl,aI⟩;refine oT g d aI λd=>?_;clear g K;refine wR 14 λK g=>?_;go_simp;refine XX (vR.o _) ?_;rintro e wv ⟨rfl,rfl⟩;refine g.o _ _ d λd=>?_;clear g K;refine wR 15 λK g=>?_;go_simp;refine g.o _ _ d λd=>?_;clear g K;refine wR 16 λK g=>?_;go_simp;refine g.o _ _ d λd=>?_;clear g K;refine wD ?_;try simp only[pU]
     go_wp2_with fail;go_meet;exact⟨rfl,d⟩
    |false =>
     refine wH w6 λd=>?_;refine wA4 0 d ?_;refine wR 4 λK g=>?_;go_simp;refine oA g d λd=>?_;clear g K;refine wR 5 λK g=>?_;go_simp;refine XX (zk.o _ w6.heap.size (az xJ.o d) (by simp)) ?_;rintro e wy ⟨rfl,p⟩;refine oT g d p λd=>?_;clear g K;refine wR 6 λK g=>?_;go_simp;refine XX (aQ.o _) ?_;rintro e wz ⟨rfl,rfl⟩;refine g.o _ _ d λd=>?_;clear g K;refine wR 7 λK g=>?_;go_simp;refine g.o _ _ d λd=>?_;clear g K;refine wV 8 d ?_;refine wV 9 d ?_;refine wV 10 d ?_;refine wV 11 d ?_;refine wV 12 d ?_;refine wV 13 d ?_;refine wV 14 d ?_;refine wR 15 λK g=>?_;go_simp;refine g.o _ _ d λd=>?_;clear g K;refine wR 16 λK g=>?_;go_simp;refine g.o _ _ d λd=>?_;clear g K;refine wD ?_;try simp only[pU]
     go_wp2_with fail;go_meet;exact⟨rfl,d⟩
   case rest=>
   obtain⟨rfl,Q⟩:=hcut
   cases hAB:(AL&&BR) with
   |true =>
    rw[hAB,Zt rfl]at t;obtain rfl:=t.o;have FH:=Zh (az aH.o Q);clear Q t;go_wp2;go_ret3;exact⟨rfl,FH.o⟩
   |false =>
   rw[hAB,ZU (by simp)]at t;obtain⟨FH,bR⟩:=aJ (az xJ.o Q) (az aH.o Q);obtain⟨bY,bZ,cu,cz,cO,cZ,df,dh⟩:=wK Q bf bg bn bq bu bz bA bB;obtain⟨di,dm,dn,dw,dx⟩:=qA Q bC bD bE bF bG;obtain⟨dz,dA⟩:=nH Q bH bI;clear Q hAB xJ aH bf bg bn bq bu bz bA bB bC bD bE bF bG bH bI;go_upto_region 8 with fail;go_cut [67] from 68 to 83 (λc wy=>c=Wl (AR&&BL)/\Bw wc wy)
   case first=>
    cases AR with
    |true =>
     refine wH wc λd=>?_;refine wA4 0 d ?_;refine wR 4 λK g=>?_;go_simp;refine oA g d λd=>?_;clear g K;refine wR 5 λK g=>?_;go_simp;refine XX (ak.o _ wc.heap.size (az FH.o d) (by simp)) ?_;rintro e wy ⟨rfl,p⟩;refine oT g d p λd=>?_;clear g K;refine wR 6 λK g=>?_;go_simp;refine XX (aR.o _) ?_;rintro e wz ⟨rfl,rfl⟩;refine g.o _ _ d λd=>?_;clear g K;refine wR 7 λK g=>?_;go_simp;refine g.o _ _ d λd=>?_;clear g K;refine wA4 8 d ?_;refine wR 12 λK g=>?_;go_simp;refine oA g d λd=>?_;clear g K;refine wR 13 λK g=>?_;go_simp;refine XX (zk.o _ wz.heap.size (az FH.o d) (by simp)) ?_;rintro e wu ⟨rfl,aI⟩;refine oT g d aI λd=>?_;clear g K;refine wR 14 λK g=>?_;go_simp;refine XX (bK.o _) ?_;rintro e wv ⟨rfl,rfl⟩;refine g.o _ _ d λd=>?_;clear g K;refine wR 15 λK g=>?_;go_simp;refine g.o _ _ d λd=>?_;clear g K;refine wR 16 λK g=>?_;go_simp;refine g.o _ _ d λd=>?_;clear g K;refine wD ?_;try simp only[pU]
     go_wp2_with fail;go_meet;exact⟨rfl,d⟩
    |false =>
     refine wH wc λd=>?_;refine wA4 0 d ?_;refine wR 4 λK g=>?_;go_simp;refine oA g d λd=>?_;clear g K;refine wR 5 λK g=>?_;go_simp;refine XX (ak.o _ wc.heap.size (az FH.o d) (by simp)) ?_;rintro e wy ⟨rfl,p⟩;refine oT g d p λd=>?_;clear g K;refine wR 6 λK g=>?_;go_simp;refine XX (aR.o _) ?_;rintro e wz ⟨rfl,rfl⟩;refine g.o _ _ d λd=>?_;clear g K;refine wR 7 λK g=>?_;go_simp;refine g.o _ _ d λd=>?_;clear g K;refine wV 8 d ?_;refine wV 9 d ?_;refine wV 10 d ?_;refine wV 11 d ?_;refine wV 12 d ?_;refine wV 13 d ?_;refine wV 14 d ?_;refine wR 15 λK g=>?_;go_simp;refine g.o _ _ d λd=>?_;clear g K;refine wR 16 λK g=>?_;go_simp;refine g.o _ _ d λd=>?_;clear g K;refine wD ?_;try simp only[pU]
     go_wp2_with fail;go_meet;exact⟨rfl,d⟩
   case rest=>
   obtain⟨rfl,H5⟩:=hcut;have Sr:=Zh (az bR.o H5)
   cases hAB:(AR&&BL) with
   |true =>
    rw[hAB,Zt rfl]at t;obtain rfl:=t.o;clear H5 t;go_wp2;go_ret3;exact⟨rfl,Sr.o⟩
   |false =>
    rw[hAB,ZU (by simp)]at t;obtain rfl:=t.o;clear H5 t;go_wp2;go_ret3;exact⟨rfl,Sr.o⟩
 .rw[Qw A]at u;obtain rfl:KV=(0,0,F):=by rw[D.o,ZU (λh=>A h.1)]
  clear D B j J8 Ii y X;go_enter Tryz.func160,Tryz.ntmps160;go_wp2_with fail;refine XX u ?_;clear u;rintro e w5 ⟨rfl,rfl⟩;go_wp2;go_ret3;exact⟨rfl,HC.o⟩
def af9(ts:List ah)(src cols:List Int)(s i:Nat):Bool:=
 decide (0<=E cols i 0)&&decide (E cols i 0<ak ts src) && !decide (E cols i 0∈cols.take i)&&aZ s (2 ^ aC ts src (E cols i 0))
def aga(ts:List ah)(src cols:List Int)(s:Nat):qI ts src cols s=(decide (0<N cols)&&decide ((N cols:Int)<=ak ts src)&&(List.range (N cols)).all (af9 ts src cols s)):=rfl
theorem OC(f:aF)(ts:List ah)(q:af)(la:Option Addr)(lc:Nat)(l:List Int)(s:Nat)(w:U)(ok:Ok ts q)(hf:iU w f.ca (jm ts q))(hl:IntsAt w la l)(hcap:N l<=lc)(hs:s<18446744073709551616)(h:qI ts q.src.xs l s=T) :
  Cb 162 #[FL (f.cells ts q),Z la (N l) lc,I Vo (s:Int)] w (Wl T):=by
 obtain⟨v0,v1,v2,v3,v4,v5,v6,v7,v8,v9,au,av,ax,cK,-,-,-,-,-,-,-,aa,-⟩:=X9 f ts q;obtain⟨w1,z,A,B⟩:=aL w ((f.cells ts q)) 90;have g:=A;have jJ:=B;obtain⟨fZ,iy,jd,iK,iL,je,jf,jR,jy,jA,dS,eP,dU⟩:=jJ.oh (by rw[cK];rfl);subst aa;have j:=D9 ok;rw[aga,<-j]at h;simp only[Qj,ZW,Qk]at h;obtain⟨⟨z0,z1⟩,h⟩:=h;have p:Y3 (∀i,i<N l->(0<=E l i 0/\E l i 0<(N (jm ts q):Int)/\E l i 0 ∉ l.take i)/\aZ s (2 ^ aC ts q.src.xs (E l i 0))=T):=λi hi=>by have d:=h i (ZZ.2 hi);unfold af9 at d;rw[<-j]at d;simp only[Qj,ZW,Bool.not_eq_true',Z4]at d;exact⟨⟨d.1.1.1,d.1.1.2,d.1.2⟩,d.2⟩
 have R:Y3 (∀x b c,Bw w1 x->UK x (aD b 0)=O (I J c)->0<=c->c<(N (jm ts q):Int)->(Cb 97 #[FL (f.cells ts q),Z (O (aD b 0)) 1 1] x (I Vo ((2 ^ aC ts q.src.xs c:Nat):Int)))/\2 ^ aC ts q.src.xs c<18446744073709551616):=
  λx b c hb h0 d h2=>⟨zO f ts q b c x ok (hf.below (az g hb)) h0 (λc' ay=>by grind),XO (n:=64) (by omega) (QA (Hz ok d (by omega)) ok.small)⟩
 have HS:=Zh hs;have v:Y3 _:=Qo g hl;have ai:=hl.1;have aj:=hf.1;have HC:=Zh g;rw[cK]at R z ⊢;obtain⟨S,C⟩:∃S:Int->Nat,∀c,2 ^ aC ts q.src.xs c=S c:=⟨_,λ_=>rfl⟩;simp only[C]at p R;obtain⟨D,ae⟩:=aJ p.o R.o;generalize jm ts q=CS at*;clear C p R j cK B jJ A g hf hl ok hs h;have zb:((N l:Int)==0)=false:=by rw[XW];omega
 have z2:¬N CS<N l:=by omega
 clear z0 z1;go_enter Tryz.func162,Tryz.ntmps162;go_wp2;clear z;go_loopw [22] (λiv wr=>∃k:Nat,k<=N l/\iv=I J k/\Bw w1 wr) (λiv _=>N l-(intOf iv).toNat)
 case atStart=>exact⟨0,QW _,rfl,Qm _ _⟩
 case round=>
  obtain⟨k,hk,rfl,a⟩:=hrel;by_cases u:k<N l
  .obtain⟨lb,lo,rfl,G⟩:=Qg v.o u;have ak:=cB a (G k u);obtain⟨⟨d,h2,h3⟩,h4⟩:=D.o k u;have r:=Cf (O (aD lb lo)) lc (l.take k) (E l k 0) wr (Qo a (IntsAt.take v.o k));rw[Xu,Qr (by omega),Qw h3]at r;have q0:=vM a fZ iy jd iK iL je jf jR jy jA dS eP dU;generalize E l k 0=c at*;obtain⟨wa,ag,t,K⟩:=aL wr #[I J c] 3;obtain⟨L,P⟩:=ae.o wa wr.heap.size c (az a t) (K.at 0) d h2;have y:=Zh λx=>oQ s (S c) HS.o P x
   rw[h4]at y;have W:=Zh (az a t);have h5:¬c<0:=by omega
   have h6:¬(N CS:Int)<=c:=by omega
   clear t K P h3 h4 G D;generalize S c=m at*;go_wp2_with fail;refine XX r ?_;rintro e w2 ⟨rfl,rfl⟩;go_wp2_with fail;refine XX L ?_;clear L ag r;rintro e w3 ⟨rfl,Q⟩;have X:=Zh (az W.o Q);clear Q a;go_wp2_with fail;refine XX (y.o _) ?_;rintro e w4 ⟨rfl,rfl⟩;go_wp2;go_roundw
   case rel=>exact⟨k+1,by omega,by go_num,X.o⟩
   case measure=>simp[intOf];omega
  .have vR:=Zh (az HC.o a);clear a;go_wp2;go_ret;exact⟨Qd rfl,vR.o⟩
def WO(ts:List ah)(q:af)(n:ai)(l r:bN):Bool:=
 (ll ts q n l.sources r.sources).2.2&&pX ts q n l.sources r.sources&&aQ l.order [(ll ts q n l.sources r.sources).1]&&aQ r.order [(ll ts q n l.sources r.sources).2.1]
theorem Kz(f:aF)(ts:List ah)(q:af)(n:ai)(l r:aG)(w:U)(ok:Ok ts q)(hf:f.At ts q w)(hn:n.cl.At w)(hl:l.Ok w)(hr:r.Ok w)(h:WO ts q n l.d r.d=T) :
  Cb 161 #[FL (f.cells ts q),FL n.cells,FL l.cells,FL r.cells] w (Wl T):=by
 obtain⟨v0,v1,v2,v3,v4,v5,v6,v7,v8,v9,aW,aX,aY,Q,-⟩:=X9 f ts q;have S:n.cells=#[I J n.kind,I J n.l,I J n.r,I J n.source,n.cl.val,I J n.key,n.co.val]:=rfl;have W:l.cells=#[I J l.kind,I Vo (l.sources:Int),I Vo (l.clauses:Int),l.order.val,I Vo (l.size:Int),I Vo (l.cost:Int)]:=rfl;have j:r.cells=#[I J r.kind,I Vo (r.sources:Int),I Vo (r.clauses:Int),r.order.val,I Vo (r.size:Int),I Vo (r.cost:Int)]:=rfl;obtain⟨w1,au,av,C⟩:=aL w ((f.cells ts q)) 90;obtain⟨w2,ax,ay,D⟩:=aL w1 n.cells 102;obtain⟨w3,aA,aB,G⟩:=aL w2 l.cells 100;obtain⟨R,aC,aH,aI⟩:=aL w3 r.cells 100;have p:=aH;have t:=az aB p;have u:=az ay t;have a:=az av u;have jJ:=C.of (u.block _ C.lt);have qU:=D.of (t.block _ D.lt);obtain⟨nQ,oW,pg,qV,qg,rZ,sj⟩:=qU.k7;have X:=G.of (p.block _ G.lt);obtain⟨aJ,Sn,aK,K,aM,aN⟩:=X.k6;have aa:=aI;obtain⟨aO,Sq,aP,k,aR,aS⟩:=aa.k6;obtain⟨fZ,iy,jd,iK,iL,je,jf,jR,jy,jA,dS,eP,dU⟩:=jJ.oh (by rw[Q];rfl);have v:=nR f ts q n l r R ok (hf.below a) (Qo a hn) hl.sources hr.sources;unfold WO at h;simp only[Qj]at h;obtain⟨⟨⟨h1,h2⟩,h3⟩,h4⟩:=h;have y:Y3 (∀x,Bw R x->_):=λx m=>Cw f ts q n l r x ok (hf.below (az a m)) (Qo (az a m) hn) hl.sources hr.sources h2;have ag:Y3 (∀x b c,Bw R x->UK x (aD b 0)=O (I J c)->Cb 164 #[Z l.order.ad (N l.order.xs) l.order.cap,Z (O (aD b 0)) 1 1] x (Wl (aQ l.order.xs [c]))):=
  λx b c m h0=>lI l.order.ad (O (aD b 0)) l.order.cap 1 l.order.xs [c] x (Qo (az a m) hl.order) ⟨by simp,λi hi=>⟨b,0,rfl,by
   grind⟩⟩ hl.cap
 have vR:Y3 (∀x b c,Bw R x->UK x (aD b 0)=O (I J c)->Cb 164 #[Z r.order.ad (N r.order.xs) r.order.cap,Z (O (aD b 0)) 1 1] x (Wl (aQ r.order.xs [c]))):=
  λx b c m h0=>lI r.order.ad (O (aD b 0)) r.order.cap 1 r.order.xs [c] x (Qo (az a m) hr.order) ⟨by simp,λi hi=>⟨b,0,rfl,by
   grind⟩⟩ hr.cap
 have HC:=Zh a;rw[Q,S,W,j]at v y;rw[Q]at au;rw[S]at ax;rw[W]at aA;rw[j]at aC;rw[Q,S,W,j];simp only[aG.d]at h1 h2 h3 h4;generalize ll ts q n l.sources r.sources=KP at*;obtain⟨ka,kb,aZ⟩:=KP;obtain⟨nk,nl,nr,ns,⟨na,nc,nx⟩,ny,⟨oa,oc,ox⟩⟩:=n;obtain⟨lk,ls,bf,⟨la,bg,lx⟩,lz,bn⟩:=l;obtain⟨rk,rs,bq,⟨ra,bu,rx⟩,rz,bz⟩:=r;unfold ae.val at*;simp only at*;subst h1;go_enter Tryz.func161,Tryz.ntmps161;go_wp2_with fail;refine XX v ?_;rintro e w5 ⟨rfl,g⟩;have f1:=vM g fZ iy jd iK iL je jf jR jy jA dS eP dU;have f2:=tO g nQ oW pg qV qg rZ sj;have f3:=JY g aJ Sn aK K aM aN;have f4:=JY g aO Sq aP k aR aS;have aj:=y.o w5 g;have jG:=Zh g;go_wp2_with fail;refine XX aj ?_;rintro e w6 ⟨rfl,aT⟩;have xJ:=Zh (az jG.o aT);have e3:=cB xJ.o K;obtain⟨wa,bA,L,aU⟩:=aL w6 #[I J ka] 3;have z:=ag.o wa w6.heap.size ka (az xJ.o L) (aU.at 0);rw[h3]at z;have A:=Zh (az xJ.o L);have e4:=cB A.o k;go_wp2_with fail;refine XX z ?_;rintro e w7 ⟨rfl,mO⟩;have FH:=Zh (az A.o mO);have e4:=cB FH.o k;obtain⟨wb,bB,P,aV⟩:=aL w7 #[I J kb] 3;have B:=vR.o wb w7.heap.size kb (az FH.o P) (aV.at 0);rw[h4]at B;have J8:=Zh (az HC.o (az FH.o P));go_wp2_with fail;refine XX B ?_;rintro e w8 ⟨rfl,H5⟩;have ak:=Zh (az J8.o H5);go_wp2;go_ret;exact⟨Qd rfl,ak.o⟩
def agb(f:aF)(ts:List ah)(q:af)(n:ai)(ao:Option Addr)(cap:Nat)(ps:List aG)(w:U)(ok:Ok ts q)(hf:f.At ts q w)(hcl:n.cl.At w)(hco:n.co.At w)(hcap:N n.co.xs<=n.co.cap)(hp:bY w ao ps)(hk1:1<=n.kind)(hk10:n.kind<=10)(hl:N ps=arity n.kind)(h:iG ts q n (E ps 0 bF).d (E ps 1 bF).d=T) :
  Cb 110 #[FL (f.cells ts q),FL n.cells,Z ao (N ps) cap] w (Wl T):=by
 obtain⟨v0,v1,v2,v3,v4,v5,v6,v7,v8,v9,aI,aK,aM,cK,ak,au,av,ax,ay,aA,aB,-⟩:=X9 f ts q;obtain⟨w1,aa,ag,P⟩:=aL w (f.cells ts q) 90;obtain⟨v,aC,Q,S⟩:=aL w1 n.cells 102;have j:=az ag Q;have HC:=Zh j;have HG:=Zh λ(x:U) (a:Bw v x)=>XK (P.of ((az Q a).block _ P.lt)) (XK (S.of (a.block _ S.lt)) (hp.below (az j a)));have i:=λh=>(hp.below j).2 0 h |>.2;have t:=λh=>(hp.below j).2 1 h |>.2;have aD:=hp.1;have C:=Zh λ(h:0<N ps) (h':kT ts q n.cl.xs (E ps 0 bF).sources=T) (x:U) (a:Bw v x)=>xC f ts q n.cl.ad n.cl.cap n.cl.xs (E ps 0 bF).sources x ok (hf.below (az j a)) (Qo (az j a) hcl) (by have:=(i h).sources;unfold bJ at this;omega) h';have D:=Zh λ(h:0<N ps) (h':qI ts q.src.xs n.co.xs (E ps 0 bF).sources=T) (x:U) (a:Bw v x)=>OC f ts q n.co.ad n.co.cap n.co.xs (E ps 0 bF).sources x ok (iU.below (az j a) hf.cols) (Qo (az j a) hco) hcap (by have:=(i h).sources;unfold bJ at this;omega) h';have u:=Zh λ(h:1<N ps) (h':pX ts q n (E ps 0 bF).sources (E ps 1 bF).sources=T) (x:U) (a:Bw v x)=>Cw f ts q n (E ps 0 bF) (E ps 1 bF) x ok (hf.below (az j a)) (Qo (az j a) hcl) (i (by omega)).sources (t h).sources h';have G:=Zh λ(h:1<N ps) (x:U) (a:Bw v x)=>nR f ts q n (E ps 0 bF) (E ps 1 bF) x ok (hf.below (az j a)) (Qo (az j a) hcl) (i (by omega)).sources (t h).sources;have K:=Zh λ(h:1<N ps) (h':WO ts q n (E ps 0 bF).d (E ps 1 bF).d=T) (x:U) (a:Bw v x)=>Kz f ts q n (E ps 0 bF) (E ps 1 bF) x ok (hf.below (az j a)) (Qo (az j a) hcl) ((i (by omega)).below a) ((t h).below a) h';have A:=Zh λ(x:U) (_:Bw v x)=>Sm f ts q (E ps 0 bF) x;have p:=Zh λ(h:0<N ps) (x:U) (a:Bw v x)=>lI (E ps 0 bF).order.ad q.keys.ad (E ps 0 bF).order.cap q.keys.cap (E ps 0 bF).order.xs q.keys.xs x (Qo a (i h).order) (Qo (az j a) hf.query.keys) (i h).cap;have k:=Zh h;obtain⟨L,hL⟩:=eX (E ps 0 bF);obtain⟨R,hR⟩:=eX (E ps 1 bF);rw[hL]at C D A p;rw[hL,hR]at u G K k;rw[cK]at aa HG C D u G K A ⊢;clear ok hf hcl hco hcap hp j ag Q P S i t cK h;obtain⟨nk,nl,nr,ns,⟨ca,cc,cl⟩,key,⟨da,dc,co⟩⟩:=n;obtain⟨lk,ls,aN,⟨la,aO,lx⟩,lz,aP⟩:=L;obtain⟨rk,rs,aQ,⟨ra,aR,rx⟩,rz,aS⟩:=R;obtain⟨G1,G2,W⟩:=HG.o v (Qm _ _);obtain⟨fZ,iy,jd,iK,iL,je,jf,jR,jy,jA,dS,eP,dU⟩:=G1.oh;obtain⟨nQ,oW,pg,qV,qg,rZ,sj⟩:=G2.k7;simp only[aG.cells,ai.cells,ae.val]at*;subst ak av ax aB;clear au ay aA;go_enter Tryz.func110,Tryz.ntmps110;go_upto_region 2 with fail;clear aa aC;rcases (by omega:nk=1∨nk=2∨nk=3∨nk=4∨nk=5∨nk=6∨nk=7∨nk=8∨nk=9∨nk=10) with rfl|rfl|rfl|rfl|rfl|rfl|rfl|rfl|rfl|rfl
 all_goals
  clear hk1 hk10;try
   have r:0<N ps:=by rw[hl];decide
   obtain⟨⟨pb,po,rfl,c0,c1,c2,c3,c4,c5⟩,-⟩:=W.2 0 r;simp only[hL,Nat.zero_mul,Xb,ae.val]at c0 c1 c2 c3 c4 c5;try
    have m:1<N ps:=by rw[hl];decide
    obtain⟨⟨_,_,e,d0,d1,d2,d3,d4,d5⟩,-⟩:=W.2 1 m;cases e;have aH:(1:Int)<(N ps:Int):=by omega
    simp only[hR,Nat.one_mul,ae.val]at d0 d1 d2 d3 d4 d5
  clear hl W G1 G2
 case' _=>
  have h:=k.o;simp[iG]at h;obtain⟨z,y⟩:=h;go_wp2;go_ret;exact⟨Qd (by simp_all),HC.o⟩
 case' _=>
  obtain⟨z,hr⟩:0<N cl/\kT ts q cl ls=true:=by have h:=k.o;simpa [iG,aG.d] using h
  have b:=Zh (C.o r hr);clear hr;go_upto_region 5 with fail;refine Qp ?_;refine ah9 ?_;refine K4 ?_;refine qK (Wl T) b.o ?_;clear z;refine K4 ?_
 rotate_left 1
 case' _=>
  have b:=Zh (u.o m k.o);go_upto_region 7 with fail;refine Qp ?_;refine qA8 ?_;refine qK (Wl T) b.o ?_;refine qA1 ?_
 rotate_left 1
 case' _=>
  have b:=Zh (G.o m);obtain⟨hk,hj⟩:=Jb.1 k.o;have HJ:=Zh hj;simp only[aG.d]at hk;clear hj k;generalize ll ts q _ _ _=KP at*;obtain⟨ka,kb,kc⟩:=KP;obtain rfl:kc=true:=hk;go_upto_region 9 with fail;refine Qp ?_;refine qA8 ?_;refine qK (.tuple #[I J ka,I J kb,Wl T]) b.o ?_;refine qA5 ?_;refine K4 ?_;refine wpQuiet_nil ?_;intro wE l;clear fZ iy jd iK iL je jf jR jy jA dS eP dU nQ oW pg qV qg rZ sj c0 c1 c2 c3 c4 c5 d0 d1 d2 d3 d4 d5 b;obtain⟨G1,G2,W⟩:=HG.o wE l;obtain⟨fZ,iy,jd,iK,iL,je,jf,jR,jy,jA,dS,eP,dU⟩:=G1.oh;obtain⟨nQ,oW,pg,qV,qg,rZ,sj⟩:=G2.k7;obtain⟨⟨_,_,e,c0,c1,c2,c3,c4,c5⟩,-⟩:=W.2 0 r;cases e;obtain⟨⟨_,_,e,d0,d1,d2,d3,d4,d5⟩,-⟩:=W.2 1 m;cases e;simp only[hL,hR,Nat.zero_mul,Xb,Nat.one_mul,ae.val]at c0 c1 c2 c3 c4 c5 d0 d1 d2 d3 d4 d5;have b:=Zh λ(x:U) (a:Bw wE x)=>u.o m HJ.o x (az l a)
  replace HC:=Zh (az HC.o l)
  clear l G1 G2 W;go_upto_region 10 with fail;refine Qp ?_;refine ah9 ?_;refine qK (Wl T) b.o ?_;refine K4 ?_
 rotate_left 1
 case' _=>
  have b:=Zh (K.o m k.o);go_upto_region 12 with fail;refine Qp ?_;refine qA8 ?_;refine qK (Wl T) b.o ?_;refine qA1 ?_
 rotate_left 1
 case' _=>
  have b:=Zh (D.o r k.o);go_upto_region 14 with fail;refine Qp ?_;refine qA6 ?_;refine qA1 ?_;refine qK (Wl T) b.o ?_;refine qA1 ?_
 rotate_left 1
 case' _=>
  have b:=Zh A.o;obtain⟨X,B⟩:=Jb.1 k.o;rw[B]at b;clear k A p B;generalize q.group=g at*;subst X;go_upto_region 16 with fail;refine Qp ?_;refine qA8 ?_;refine qK (Wl T) b.o ?_;refine K4 ?_
 rotate_left 1
 case' _=>
  obtain⟨aj,hs⟩:=Jb.1 k.o;obtain⟨X,B⟩:=Jb.1 aj;obtain⟨b,HY⟩:=aJ A.o (p.o r);simp only[aG.d]at hs;rw[B]at b;rw[hs]at HY;clear k A p B hs aj;generalize q.group=g at*;subst X;go_upto_region 18 with fail;refine Qp ?_;refine qA8 ?_;refine qK (Wl T) b.o ?_;refine K4 ?_;refine qA6 ?_;refine qA1 ?_;refine qK (Wl T) HY.o ?_;refine K4 ?_
 rotate_left 1
 case' _=>
  obtain⟨X,B⟩:=Jb.1 k.o;have b:=Zh A.o;rw[B]at b;clear k A p B;generalize q.group=g at*;obtain rfl:g=false:=by simpa using X
  clear X;go_upto_region 20 with fail;refine Qp ?_;refine qA8 ?_;refine qA1 ?_;refine qK (Wl T) b.o ?_;refine K4 ?_
 rotate_left 1
 case' _=>
  have z:0<N q.ord.xs:=Xa k.o;go_wp2;go_ret;exact⟨Qd (by simp_all),HC.o⟩
 all_goals
  refine wpQuiet_nil ?_;intro wE l;have Bh:=Zh (az HC.o l);clear l;go_wp2;go_ret;exact⟨Qd rfl,Bh.o⟩
