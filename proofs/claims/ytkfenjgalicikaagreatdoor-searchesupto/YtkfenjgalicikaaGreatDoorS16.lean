import Derived.Test.YtkfenjgalicikaaGreatDoorS07
set_option linter.all false
set_option maxRecDepth 100000
set_option maxHeartbeats 0
namespace Go.Proofs.Zz
open Go.RowKit Go.Shelf Go.Proofs.Tryz
open List renaming length->N,getD->E
open Go.Value renaming int->I
open Option renaming some->O
open Bool renaming false->F
theorem PR(f:bC)(ts:JK af)(q:ae)(b:Nat)(c:Int)(w:World)(ok:Ok ts q)(hf:oQ w f.ca (qZ ts q))(h0:w.cell? (aD b 0)=O (I .i64 c))(hc:lT ts q [c]) :
  Cb 132 #[.agg (f.cells ts q),.slice (O (aD b 0)) 1 1] w (I .u64 ((2 ^ aU ts q.au.xs c:Nat):Int)):=by
 have h:=xg f ts q (O (aD b 0)) 1 [c] w ok hf ⟨Qa,λi a=>⟨b,0,rfl,by
  grind⟩⟩ hc
 have e:bn (iR ts q [c])=2 ^ aU ts q.au.xs c:=vk _;rw[e]at h;exact h
def Nu(f:bC)(ts:JK af)(q:ae)(n:ay)(l r:eQ)(w:World)(ok:Ok ts q)(hf:f.At ts q w)(hn:n.cl.At w)(hl:l.ah<=bO)(hr:r.ah<=bO) :
  Cb 256 #[.agg (f.cells ts q),.agg n.cells,.agg l.cells,.agg r.cells] w (.tuple #[I .i64 (lZ ts q n l.ah r.ah).1,I .i64 (lZ ts q n l.ah r.ah).2.1,.bool (lZ ts q n l.ah r.ah).2.2]):=by
 obtain⟨v0,v1,v2,v3,v4,v5,v6,v7,v8,v9,fO,fP,fQ,iq,-,bQ,-⟩:=Jh f ts q;obtain⟨w1,dB,dP,aP⟩:=bI w ((f.cells ts q)) 118;obtain⟨w2,bR,jf,aQ⟩:=bI w1 n.cells 43;obtain⟨w3,bS,aR,aS⟩:=bI w2 l.cells 141;obtain⟨w4,bT,aT,aV⟩:=bI w3 r.cells 141;have R:=aT;have S:=aO aR R;have W:=aO jf S;have oq:=aO dP W;have Ho:=aP.up W;have UB:=aQ.up S;have bM:=UB.at 4;have bN:=UB.at 5;have aC:=aS.up R;have aF:=aC.at 1;have aG:=aV;have aH:=aG.at 1;obtain⟨Dg,MW,Ym,Py,Pv,Yn,Yo,aW,aX,aY,DC,Si,DD⟩:=Ho.vV (by rw[iq];rfl);have aI:l.ah<18446744073709551616:=by unfold bO at hl;omega
 have aJ:r.ah<18446744073709551616:=by unfold bO at hr;omega
 have aK:Hid _:=Uo n.cl.ad n.cl.cap n.cl.xs n.key w4 (Zc oq hn);have D:Hid (lZ ts q n l.ah r.ah=if n.key∈n.cl.xs/\0<=n.key/\n.key<N q.wh then xI ts q.au.xs (E q.wh n.key.toNat lz).cs l.ah r.ah else (0,0,F)):=rfl;have A:Hid (∀x b c,Bw w4 x->x.cell? (aD b 0)=O (I .i64 c)->lT ts q [c]->Cb 132 #[.agg (f.cells ts q),.slice (O (aD b 0)) 1 1] x (I .u64 ((2 ^ aU ts q.au.xs c:Nat):Int))):=
  λx b c hb L hc=>PR f ts q b c x ok (hf.bU.aj (aO oq hb)) L hc
 have HP:Hid (∀c,lT ts q [c]->2 ^ aU ts q.au.xs c<18446744073709551616):=λc hc=>by obtain⟨L,h1⟩:=hc c Qa;exact XR (n:=64) X (ZO (Yd ok L h1) ok.ig)
 have p:Hid (∀x m,m<18446744073709551616->_):=λx m hm=>yN l.ah m aI hm x;have t:Hid (∀x m,m<18446744073709551616->_):=λx m hm=>yN r.ah m aJ hm x;have v:Hid (∀k,k<N q.wh->(∃b off,q.iF=O (aD b off)/\w4.cell? (aD b (off+k))=O (.slice (E q.wh k lz).ad (E q.wh k lz).cs.length (E q.wh k lz).cap))/\bZ w4 (E q.wh k lz).ad (E q.wh k lz).cs/\0<(E q.wh k lz).cs.length):=λk G=>by have hW:=hf.qC.wh.aj oq;obtain⟨b,off,e,hc⟩:=hW.2.1 k G;exact⟨⟨b,off,e,hc⟩,hW.2.2 k G,ok.some k G⟩
 have y:Hid (∀k,k<N q.wh->_):=λk G=>@Sz ts q ok k G;have cz:=hf.qC.wh.1;have HC:=Zh oq;rw[iq]at A dB ⊢;subst bQ;obtain⟨nk,nl,nr,ns,⟨na,nc,nx⟩,ny,no⟩:=n;unfold aA.val at*;simp only at*;generalize bY:lZ ts q _ l.ah r.ah=KV at*;clear bY;generalize ay.cells _=NC,l.cells=LC,r.cells=RC,l.ah=a,r.ah=b at*;clear oq W S R dP jf aR aT aP aQ aS aV Ho UB aC aG hf ok hn hl hr aI aJ iq;have g:=aK.o;clear aK;by_cases gH:ny∈nx
 .rw[Zl gH]at g;by_cases L:ny<0
  .obtain rfl:KV=(0,0,F):=by rw[D.o,Zk (λh=>absurd h.2.1 X)]
   clear D A p t v y HP;go_enter func256,ntmps256;go_wp2_with fail;refine Jg g ?_;clear g;rintro e w5 ⟨rfl,rfl⟩;go_wp2;go_ret3;exact⟨rfl,HC.o⟩
  by_cases h1:(N q.wh:Int)<=ny
  .obtain rfl:KV=(0,0,F):=by rw[D.o,Zk (λh=>absurd h.2.2 X)]
   clear D A p t v y HP;go_enter func256,ntmps256;go_wp2_with fail;refine Jg g ?_;clear g;rintro e w5 ⟨rfl,rfl⟩;go_wp2;go_ret3;exact⟨rfl,HC.o⟩
  obtain⟨k,rfl⟩:=XX (show 0<=ny by omega);have G:k<N q.wh:=X;have u:=Zh D.o;rw[Zd ⟨gH,X,X⟩,XY,alg]at u;obtain⟨⟨qb,qo,aZ,bW⟩,z,P⟩:=v.o k G;have aa:=Zh (y.o k G);rw[aZ]at MW A dB ⊢;have B:=xP (E q.wh k lz).ad (E q.wh k lz).cap (E q.wh k lz).cs w4 z P;clear D v y z P aZ gH;generalize (E q.wh k lz).cap=aoU,(E q.wh k lz).ad=cad,(E q.wh k lz).cs=cs at*;generalize di cs=EC at*;obtain⟨EL,ER,EB⟩:=EC;simp only at*;generalize cu:N q.wh=nw at*;clear cu
  cases EB with
  |false =>
   obtain rfl:KV=(0,0,F):=by rw[u.o,Zd rfl]
   clear u A p t aa HP;go_enter func256,ntmps256;go_wp2_with fail;refine Jg g ?_;clear g;rintro e w5 ⟨rfl,rfl⟩;go_wp2_with fail;refine mR B λw6 j=>?_;clear B;have yu:=Zh (aO HC.o j);clear j;go_wp2;go_ret3;exact⟨rfl,yu.o⟩
  |true =>
   obtain⟨ak,av⟩:=aa.o rfl;have ag:=HP.o EL ak;have ai:=HP.o ER av;have aL:Hid (∀x b,_->_->_):=λx b hb L=>A.o x b EL hb L ak;have aM:Hid (∀x b,_->_->_):=λx b hb L=>A.o x b ER hb L av;rw[Zk Qa]at u;generalize 2 ^ aU ts q.au.xs EL=SL,2 ^ aU ts q.au.xs ER=SR at*;have PQ:Hid (∀x,_):=λx=>p.o x SL ag;have bP:Hid (∀x,_):=λx=>p.o x SR ai;have YG:Hid (∀x,_):=λx=>t.o x SL ag;have V8:Hid (∀x,_):=λx=>t.o x SR ai;generalize bV a SL=AL,bV a SR=AR,bV b SL=BL,bV b SR=BR at*;clear aa HP A p t ak av ag ai;go_enter func256,ntmps256;go_wp2_with fail;refine Jg g ?_;clear g;rintro e w5 ⟨rfl,rfl⟩;go_wp2_with fail;refine mR B λw6 j=>?_;clear B dB bR bS bT;obtain⟨bf,bg,bn,bq,bu,bz,bA,bB⟩:=Da j aF aH Dg MW Ym Py Pv Yn;obtain⟨bD,bE,bF,bG,bJ⟩:=qi j Yo aW aX aY DC;obtain⟨bK,bL⟩:=kP j Si DD;obtain⟨yu,ax⟩:=bH j (aO HC.o j);clear j bW bM bN aF aH Dg MW Ym Py Pv Yn Yo aW aX aY DC Si DD;go_upto_region 6 with fail;go_cut [48] from 49 to 64 (λc wx=>c=.bool (AL&&BR)/\Bw w6 wx)
   case first=>
    refine wH w6 λd=>?_;refine IU 0 d ?_;refine wR 4 λK i=>?_;go_simp;refine oA i d λd=>?_;refine wR 5 λK i=>?_;go_simp;refine mR (aL.o _ w6.heap.size (aO yu.o d) Qa) λwy az=>?_;refine oT i d az λd=>?_;refine wR 6 λK i=>?_;go_simp;refine Jg (PQ.o _) ?_;rintro e wz ⟨rfl,rfl⟩;refine i.o _ _ d λd=>?_;clear i K;refine rR 7 d ?_;cases AL;refine wS6 8 d ?_;refine wS1 14 d ?_
    rotate_left
    refine wB4 8 d ?_;refine wR 12 λK i=>?_;go_simp;refine oA i d λd=>?_;refine wR 13 λK i=>?_;go_simp;refine mR (aM.o _ wz.heap.size (aO yu.o d) Qa) λwu aB=>?_;refine oT i d aB λd=>?_;refine wR 14 λK i=>?_;go_simp;refine Jg (V8.o _) ?_;rintro e wv ⟨rfl,rfl⟩;refine i.o _ _ d λd=>?_
    all_goals
     refine Co 15 d ?_;refine wD ?_;try simp only[pU]
     go_wp2_with fail;go_meet;exact⟨rfl,d⟩
   case rest=>
   obtain⟨rfl,Q⟩:=hcut
   cases hAB:(AL&&BR) with
   |true =>
    rw[hAB,Zd rfl]at u;obtain rfl:=u.o;have C:=Zh (aO ax.o Q);clear Q u;go_wp2;go_ret3;exact⟨rfl,C.o⟩
   |false =>
   rw[hAB,Zk Qa]at u;obtain⟨C,bX⟩:=bH (aO yu.o Q) (aO ax.o Q);obtain⟨cB,cK,cO,cZ,df,dh,dm,dn⟩:=Da Q bf bg bn bq bu bz bA bB;obtain⟨dw,dx,dz,dA,dC⟩:=qi Q bD bE bF bG bJ;obtain⟨dD,dE⟩:=kP Q bK bL;clear Q hAB yu ax bf bg bn bq bu bz bA bB bD bE bF bG bJ bK bL;go_upto_region 8 with fail;go_cut [67] from 68 to 83 (λc wy=>c=.bool (AR&&BL)/\Bw wc wy)
   case first=>
    refine wH wc λd=>?_;refine IU 0 d ?_;refine wR 4 λK i=>?_;go_simp;refine oA i d λd=>?_;refine wR 5 λK i=>?_;go_simp;refine mR (aM.o _ wc.heap.size (aO C.o d) Qa) λwy az=>?_;refine oT i d az λd=>?_;refine wR 6 λK i=>?_;go_simp;refine Jg (bP.o _) ?_;rintro e wz ⟨rfl,rfl⟩;refine i.o _ _ d λd=>?_;clear i K;refine rR 7 d ?_;cases AR;refine wS6 8 d ?_;refine wS1 14 d ?_
    rotate_left
    refine wB4 8 d ?_;refine wR 12 λK i=>?_;go_simp;refine oA i d λd=>?_;refine wR 13 λK i=>?_;go_simp;refine mR (aL.o _ wz.heap.size (aO C.o d) Qa) λwu aB=>?_;refine oT i d aB λd=>?_;refine wR 14 λK i=>?_;go_simp;refine Jg (YG.o _) ?_;rintro e wv ⟨rfl,rfl⟩;refine i.o _ _ d λd=>?_
    all_goals
     refine Co 15 d ?_;refine wD ?_;try simp only[pU]
     go_wp2_with fail;go_meet;exact⟨rfl,d⟩
   case rest=>
   obtain⟨rfl,EZ⟩:=hcut;have aN:=Zh (aO bX.o EZ)
   cases hAB:(AR&&BL) with
   |true =>
    rw[hAB,Zd rfl]at u;obtain rfl:=u.o;clear EZ u;go_wp2;go_ret3;exact⟨rfl,aN.o⟩
   |false =>
    rw[hAB,Zk Qa]at u;obtain rfl:=u.o;clear EZ u;go_wp2;go_ret3;exact⟨rfl,aN.o⟩
 .rw[ZK gH]at g;obtain rfl:KV=(0,0,F):=by rw[D.o,Zk (λh=>gH h.1)]
  clear D A p t v y HP;go_enter func256,ntmps256;go_wp2_with fail;refine Jg g ?_;clear g;rintro e w5 ⟨rfl,rfl⟩;go_wp2;go_ret3;exact⟨rfl,HC.o⟩
