import Derived.Test.YtpcfbajdeipgbaaGreatDoorX05
set_option linter.all false
set_option maxRecDepth 100000
set_option maxHeartbeats 0
namespace Go.Proofs.Zz
open Go.RowKit Go.Shelf
open List renaming length->N,getD->E
open Go.Value renaming slice->Z,int->I,bool->EP,agg->FN
open Option renaming some->O
open Go.IntKind renaming i64->J,u64->Dc
open Bool renaming false->F,true->T
open Go renaming World->U
open Go.RowKit renaming Hid->Wl
open Go.World renaming cell?->Am
theorem aga(ts:List ag)(src:List Int)(cs:List aF)(a b:Nat):GA ts src cs a b =
  if (jq cs).2.2=F then (0,0,F)
  else if (dG a (2 ^ au ts src (jq cs).1)&&dG b (2 ^ au ts src (jq cs).2.1))=T then ((jq cs).1,(jq cs).2.1,T)
  else if (dG a (2 ^ au ts src (jq cs).2.1)&&dG b (2 ^ au ts src (jq cs).1))=T then ((jq cs).2.1,(jq cs).1,T)
  else (0,0,F):=by unfold GA jq;grind
theorem acv{ts:List ag}{q:af}(ok:Ok ts q){k:Nat}(hk:k<N q.wh)(h:(jq (E q.wh k lz).cs).2.2=T):uU ts q [(jq (E q.wh k lz).cs).1]/\uU ts q [(jq (E q.wh k lz).cs).2.1]:=by
 have f:=ok.some k hk;have g:=ok.cols k hk;generalize (E q.wh k lz).cs=cs at*;unfold jq at h ⊢;by_cases e:N cs > 1∨(E cs 0 cz).op≠0∨(E cs 0 cz).not=T∨(E cs 0 cz).const=T
 .rw[Qu e]at h;cases h
 rw[QC e];have d:∀x,x∈aL (E cs 0 cz)->x∈aG cs:=λx a=>QO.2 ⟨_,Xx f,a⟩;have i:(E cs 0 cz).op=0:=by omega
 have j:(E cs 0 cz).const=false:=by grind
 have b:aL (E cs 0 cz)=[(E cs 0 cz).left,(E cs 0 cz).right]:=by unfold aL;grind
 rw[b]at d;refine⟨λc a=>?_,λc a=>?_⟩
 .grind
 .rw[Xj]at a;rw[a];exact g _ (d _ (by simp))
theorem DZ(ca:Option Addr)(cc:Nat)(cs:List aF)(w:U)(hx:bS w ca cs)(h0:0<N cs) :
  Cb 150 #[FN #[Z ca (N cs) cc]] w (.tuple #[I J (jq cs).1,I J (jq cs).2.1,EP (jq cs).2.2]):=by
 obtain⟨B,co,rfl,p,q,r,t,u⟩:=hx.2 0 h0;have y:=hx.1;rw[XI,Zp]at p q r t u;have d:Wl (jq cs=if (N cs) > 1∨(E cs 0 cz).op≠0∨(E cs 0 cz).not=T∨(E cs 0 cz).const=T then (0,0,F) else ((E cs 0 cz).left,(E cs 0 cz).right,T)):=rfl;generalize jq cs=EC at*;generalize E cs 0 cz=c at*;obtain⟨i,k,left,a,right⟩:=c;simp only at*;obtain⟨C,D,j,b⟩:=aX w #[Z (O (aD B co)) (N cs) cc] 88;obtain⟨Q,G,m,n⟩:=aX C #[EP i,I J k,I J left,EP a,I J right] 90;have e:=m;have l:=aj j e;have z:=b.of (e.block _ b.lt);have L:=z.at 0;have A:=n;obtain⟨R,S,W,X,jQ⟩:=A.k5;have P:=b.at 0;obtain⟨d0,d1,d2,d3,d4⟩:=ji j p q r t u;have f:=Zh l;by_cases K:N cs > 1
 .obtain rfl:EC=(0,0,F):=by rw[d.o,Qu (.inl K)]
  go_enter Tryz.func150,Tryz.ntmps150;go_wp2;go_ret3;exact⟨rfl,f.o⟩
 by_cases v:k≠0
 .obtain rfl:EC=(0,0,F):=by rw[d.o,Qu (.inr (.inl v))]
  have g:(k != 0)=true:=by rw[bne_iff_ne];exact v
  go_enter Tryz.func150,Tryz.ntmps150;go_wp2;go_ret3;exact⟨rfl,f.o⟩
 have g:k=0:=by omega
 subst g
 cases i with
 |true =>
  obtain rfl:EC=(0,0,F):=by rw[d.o,Qu (.inr (.inr (.inl rfl)))]
  go_enter Tryz.func150,Tryz.ntmps150;go_wp2;go_ret3;exact⟨rfl,f.o⟩
 |false =>
  cases a with
  |true =>
   obtain rfl:EC=(0,0,F):=by rw[d.o,Qu (.inr (.inr (.inr rfl)))]
   go_enter Tryz.func150,Tryz.ntmps150;go_wp2;go_ret3;exact⟨rfl,f.o⟩
  |false =>
   obtain rfl:EC=(left,right,T):=by rw[d.o,QC];grind
   go_enter Tryz.func150,Tryz.ntmps150;go_wp2;go_quiet (fail);go_wp2;go_ret3;exact⟨rfl,Qy f.o _⟩
theorem Ai(f:bq)(ts:List ag)(q:af)(b:Nat)(c:Int)(w:U)(ok:Ok ts q)(hf:jL w f.ca (iL ts q))(h0:Am w (aD b 0)=O (I J c))(hc:uU ts q [c]) :
  Cb 96 #[FN (f.cells ts q),Z (O (aD b 0)) 1 1] w (I Dc ((2 ^ au ts q.src.xs c:Nat):Int)):=by
 have h:=Ad f ts q (O (aD b 0)) 1 [c] w ok hf ⟨by simp,λi a=>⟨b,0,rfl,by
  grind⟩⟩ hc
 have e:aZ (nS ts q [c])=2 ^ au ts q.src.xs c:=xN _;rw[e]at h;exact h
def sj(f:bq)(ts:List ag)(q:af)(n:ai)(l r:aK)(w:U)(ok:Ok ts q)(hf:f.At ts q w)(hn:n.cl.At w)(hl:l.sources<=aU)(hr:r.sources<=aU) :
  Cb 101 #[FN (f.cells ts q),FN n.cells,FN l.cells,FN r.cells] w (.tuple #[I J (nR ts q n l.sources r.sources).1,I J (nR ts q n l.sources r.sources).2.1,EP (nR ts q n l.sources r.sources).2.2]):=by
 obtain⟨v0,v1,v2,v3,v4,v5,v6,v7,v8,v9,bO,bP,bQ,dY,-,bF,-⟩:=Jf f ts q;obtain⟨w1,av,aP,ax⟩:=aX w ((f.cells ts q)) 63;obtain⟨w2,bG,aQ,ay⟩:=aX w1 n.cells 50;obtain⟨w3,bH,aR,az⟩:=aX w2 l.cells 120;obtain⟨w4,bI,aS,aT⟩:=aX w3 r.cells 120;have Q:=aS;have R:=aj aR Q;have S:=aj aQ R;have u:=aj aP S;have fG:=ax.of (S.block _ ax.lt);have jA:=ay.of (R.block _ ay.lt);have jQ:=jA.at 4;have mf:=jA.at 5;have aG:=az.of (Q.block _ az.lt);have Sl:=aG.at 1;have aH:=aT;have Sm:=aH.at 1;obtain⟨dM,dX,dQ,dR,eu,eU,eH,gq,gm,gp,bY,dw,bZ⟩:=fG.zR (by rw[dY];rfl);have aI:l.sources<18446744073709551616:=by unfold aU at hl;omega
 have aJ:r.sources<18446744073709551616:=by unfold aU at hr;omega
 have aL:Wl _:=Ca n.cl.ad n.cl.cap n.cl.xs n.key w4 (Qt u hn);have C:Wl (nR ts q n l.sources r.sources=if n.key∈n.cl.xs/\0<=n.key/\n.key<N q.wh then GA ts q.src.xs (E q.wh n.key.toNat lz).cs l.sources r.sources else (0,0,F)):=rfl;have A:Wl (∀x b c,Bw w4 x->Am x (aD b 0)=O (I J c)->uU ts q [c]->Cb 96 #[FN (f.cells ts q),Z (O (aD b 0)) 1 1] x (I Dc ((2 ^ au ts q.src.xs c:Nat):Int))):=
  λx b c hb G hc=>Ai f ts q b c x ok (hf.cols.below (aj u hb)) G hc
 have W:Wl (∀c,uU ts q [c]->2 ^ au ts q.src.xs c<18446744073709551616):=λc hc=>by obtain⟨G,h1⟩:=hc c (by simp);exact XB (n:=64) (by omega) (Q0 (Hy ok G h1) ok.small)
 have X:Wl (∀x m,m<18446744073709551616->_):=λx m hm=>vU l.sources m aI hm x;have Ij:Wl (∀x m,m<18446744073709551616->_):=λx m hm=>vU r.sources m aJ hm x;have Bh:Wl (∀k,k<N q.wh->(∃b off,q.dx=O (aD b off)/\Am w4 (aD b (off+k))=O (Z (E q.wh k lz).ad (E q.wh k lz).cs.length (E q.wh k lz).cap))/\bS w4 (E q.wh k lz).ad (E q.wh k lz).cs/\0<(E q.wh k lz).cs.length):=λk D=>by have hW:=hf.query.wh.below u;obtain⟨b,off,e,hc⟩:=hW.2.1 k D;exact⟨⟨b,off,e,hc⟩,hW.2.2 k D,ok.some k D⟩
 have v:Wl (∀k,k<N q.wh->_):=λk D=>@acv ts q ok k D;have bN:=hf.query.wh.1;have HC:=Zh u;rw[dY]at A av ⊢;subst bF;obtain⟨nk,nl,nr,ns,⟨na,nc,nx⟩,ny,no⟩:=n;unfold ae.val at*;simp only at*;generalize bL:nR ts q _ l.sources r.sources=KV at*;clear bL;generalize ai.cells _=NC at*;generalize l.cells=LC at*;generalize r.cells=RC at*;generalize l.sources=a at*;generalize r.sources=b at*;clear u S R Q aP aQ aR aS ax ay az aT fG jA aG aH hf ok hn hl hr aI aJ dY;have t:=aL.o;clear aL;by_cases z:ny∈nx
 .rw[QD z]at t;by_cases G:ny<0
  .obtain rfl:KV=(0,0,F):=by rw[C.o,QC (λh=>absurd h.2.1 (by omega))]
   clear C A X Ij Bh v W;go_enter Tryz.func101,Tryz.ntmps101;go_wp2_with fail;refine XO t ?_;clear t;rintro e w5 ⟨rfl,rfl⟩;go_wp2;go_ret3;exact⟨rfl,HC.o⟩
  by_cases h1:(N q.wh:Int)<=ny
  .obtain rfl:KV=(0,0,F):=by rw[C.o,QC (λh=>absurd h.2.2 (by omega))]
   clear C A X Ij Bh v W;go_enter Tryz.func101,Tryz.ntmps101;go_wp2_with fail;refine XO t ?_;clear t;rintro e w5 ⟨rfl,rfl⟩;go_wp2;go_ret3;exact⟨rfl,HC.o⟩
  obtain⟨k,rfl⟩:=XD (show 0<=ny by omega);have D:k<N q.wh:=by omega
  have p:=Zh C.o;rw[Qu ⟨z,by omega,by omega⟩,Xu,aga]at p;obtain⟨⟨qb,qo,aW,bJ⟩,y,L⟩:=Bh.o k D;have aa:=Zh (v.o k D);rw[aW]at dX A av ⊢;have B:=DZ (E q.wh k lz).ad (E q.wh k lz).cap (E q.wh k lz).cs w4 y L;clear C Bh v y L aW z;generalize (E q.wh k lz).cap=dK at*;generalize (E q.wh k lz).ad=ng at*;generalize (E q.wh k lz).cs=cs at*;generalize jq cs=EC at*;obtain⟨EL,ER,EB⟩:=EC;simp only at*;generalize bM:N q.wh=nw at*;clear bM
  cases EB with
  |false =>
   obtain rfl:KV=(0,0,F):=by rw[p.o,Qu rfl]
   clear p A X Ij aa W;go_enter Tryz.func101,Tryz.ntmps101;go_wp2_with fail;refine XO t ?_;clear t;rintro e w5 ⟨rfl,rfl⟩;go_wp2_with fail;refine XO B ?_;clear B;rintro e w6 ⟨rfl,i⟩;have sN:=Zh (aj HC.o i);clear i;go_wp2;go_ret3;exact⟨rfl,sN.o⟩
  |true =>
   obtain⟨aA,aB⟩:=aa.o rfl;have ah:=W.o EL aA;have ak:=W.o ER aB;have vH:Wl (∀x b,_->_->_):=λx b hb G=>A.o x b EL hb G aA;have Vv:Wl (∀x b,_->_->_):=λx b hb G=>A.o x b ER hb G aB;rw[QC (by simp)]at p;generalize 2 ^ au ts q.src.xs EL=SL at*;generalize 2 ^ au ts q.src.xs ER=SR at*;have aM:Wl (∀x,_):=λx=>X.o x SL ah;have aN:Wl (∀x,_):=λx=>X.o x SR ak;have Od:Wl (∀x,_):=λx=>Ij.o x SL ah;have nV:Wl (∀x,_):=λx=>Ij.o x SR ak;generalize dG a SL=AL at*;generalize dG a SR=AR at*;generalize dG b SL=BL at*;generalize dG b SR=BR at*;clear aa W A X Ij aA aB ah ak;go_enter Tryz.func101,Tryz.ntmps101;go_wp2_with fail;refine XO t ?_;clear t;rintro e w5 ⟨rfl,rfl⟩;go_wp2_with fail;refine XO B ?_;clear B av bG bH bI;rintro e w6 ⟨rfl,i⟩;obtain⟨aY,aZ,bf,bg,bn,bu,bz,bA⟩:=qf i Sl Sm dM dX dQ dR eu eU;obtain⟨bB,bC,bD,bE,Sn⟩:=ji i eH gq gm gp bY;obtain⟨Sq,Sr⟩:=gy i dw bZ;obtain⟨sN,aC⟩:=aV i (aj HC.o i);clear i bJ jQ mf Sl Sm dM dX dQ dR eu eU eH gq gm gp bY dw bZ;go_upto_region 6 with fail;go_cut [48] from 49 to 64 (λc wx=>c=EP (AL&&BR)/\Bw w6 wx)
   case first=>
    cases AL with
    |true =>
     refine wH w6 λd=>?_;refine wA4 0 d ?_;refine wR 4 λK g=>?_;go_simp;refine oA g d λd=>?_;clear g K;refine wR 5 λK g=>?_;go_simp;refine XO (vH.o _ w6.heap.size (aj sN.o d) (by simp)) ?_;rintro e wy ⟨rfl,j⟩;refine oT g d j λd=>?_;clear g K;refine wR 6 λK g=>?_;go_simp;refine XO (aM.o _) ?_;rintro e wz ⟨rfl,rfl⟩;refine g.o _ _ d λd=>?_;clear g K;refine wR 7 λK g=>?_;go_simp;refine g.o _ _ d λd=>?_;clear g K;refine wA4 8 d ?_;refine wR 12 λK g=>?_;go_simp;refine oA g d λd=>?_;clear g K;refine wR 13 λK g=>?_;go_simp;refine XO (Vv.o _ wz.heap.size (aj sN.o d) (by simp)) ?_;rintro e wu ⟨rfl,aF⟩;refine oT g d aF λd=>?_;clear g K;refine wR 14 λK g=>?_;go_simp;refine XO (nV.o _) ?_;rintro e wv ⟨rfl,rfl⟩;refine g.o _ _ d λd=>?_;clear g K;refine wR 15 λK g=>?_;go_simp;refine g.o _ _ d λd=>?_;clear g K;refine wR 16 λK g=>?_;go_simp;refine g.o _ _ d λd=>?_;clear g K;refine wD ?_;try simp only[pU]
     go_wp2_with fail;go_meet;exact⟨rfl,d⟩
    |false =>
     refine wH w6 λd=>?_;refine wA4 0 d ?_;refine wR 4 λK g=>?_;go_simp;refine oA g d λd=>?_;clear g K;refine wR 5 λK g=>?_;go_simp;refine XO (vH.o _ w6.heap.size (aj sN.o d) (by simp)) ?_;rintro e wy ⟨rfl,j⟩;refine oT g d j λd=>?_;clear g K;refine wR 6 λK g=>?_;go_simp;refine XO (aM.o _) ?_;rintro e wz ⟨rfl,rfl⟩;refine g.o _ _ d λd=>?_;clear g K;refine wR 7 λK g=>?_;go_simp;refine g.o _ _ d λd=>?_;clear g K;refine wV 8 d ?_;refine wV 9 d ?_;refine wV 10 d ?_;refine wV 11 d ?_;refine wV 12 d ?_;refine wV 13 d ?_;refine wV 14 d ?_;refine wR 15 λK g=>?_;go_simp;refine g.o _ _ d λd=>?_;clear g K;refine wR 16 λK g=>?_;go_simp;refine g.o _ _ d λd=>?_;clear g K;refine wD ?_;try simp only[pU]
     go_wp2_with fail;go_meet;exact⟨rfl,d⟩
   case rest=>
   obtain⟨rfl,P⟩:=hcut
   cases hAB:(AL&&BR) with
   |true =>
    rw[hAB,Qu rfl]at p;obtain rfl:=p.o;have Df:=Zh (aj aC.o P);clear P p;go_wp2;go_ret3;exact⟨rfl,Df.o⟩
   |false =>
   rw[hAB,QC (by simp)]at p;obtain⟨Df,bK⟩:=aV (aj sN.o P) (aj aC.o P);obtain⟨bR,bT,bU,bV,bW,bX,cu,cz⟩:=qf P aY aZ bf bg bn bu bz bA;obtain⟨cK,cO,cZ,df,dh⟩:=ji P bB bC bD bE Sn;obtain⟨di,dm⟩:=gy P Sq Sr;clear P hAB sN aC aY aZ bf bg bn bu bz bA bB bC bD bE Sn Sq Sr;go_upto_region 8 with fail;go_cut [67] from 68 to 83 (λc wy=>c=EP (AR&&BL)/\Bw wc wy)
   case first=>
    cases AR with
    |true =>
     refine wH wc λd=>?_;refine wA4 0 d ?_;refine wR 4 λK g=>?_;go_simp;refine oA g d λd=>?_;clear g K;refine wR 5 λK g=>?_;go_simp;refine XO (Vv.o _ wc.heap.size (aj Df.o d) (by simp)) ?_;rintro e wy ⟨rfl,j⟩;refine oT g d j λd=>?_;clear g K;refine wR 6 λK g=>?_;go_simp;refine XO (aN.o _) ?_;rintro e wz ⟨rfl,rfl⟩;refine g.o _ _ d λd=>?_;clear g K;refine wR 7 λK g=>?_;go_simp;refine g.o _ _ d λd=>?_;clear g K;refine wA4 8 d ?_;refine wR 12 λK g=>?_;go_simp;refine oA g d λd=>?_;clear g K;refine wR 13 λK g=>?_;go_simp;refine XO (vH.o _ wz.heap.size (aj Df.o d) (by simp)) ?_;rintro e wu ⟨rfl,aF⟩;refine oT g d aF λd=>?_;clear g K;refine wR 14 λK g=>?_;go_simp;refine XO (Od.o _) ?_;rintro e wv ⟨rfl,rfl⟩;refine g.o _ _ d λd=>?_;clear g K;refine wR 15 λK g=>?_;go_simp;refine g.o _ _ d λd=>?_;clear g K;refine wR 16 λK g=>?_;go_simp;refine g.o _ _ d λd=>?_;clear g K;refine wD ?_;try simp only[pU]
     go_wp2_with fail;go_meet;exact⟨rfl,d⟩
    |false =>
     refine wH wc λd=>?_;refine wA4 0 d ?_;refine wR 4 λK g=>?_;go_simp;refine oA g d λd=>?_;clear g K;refine wR 5 λK g=>?_;go_simp;refine XO (Vv.o _ wc.heap.size (aj Df.o d) (by simp)) ?_;rintro e wy ⟨rfl,j⟩;refine oT g d j λd=>?_;clear g K;refine wR 6 λK g=>?_;go_simp;refine XO (aN.o _) ?_;rintro e wz ⟨rfl,rfl⟩;refine g.o _ _ d λd=>?_;clear g K;refine wR 7 λK g=>?_;go_simp;refine g.o _ _ d λd=>?_;clear g K;refine wV 8 d ?_;refine wV 9 d ?_;refine wV 10 d ?_;refine wV 11 d ?_;refine wV 12 d ?_;refine wV 13 d ?_;refine wV 14 d ?_;refine wR 15 λK g=>?_;go_simp;refine g.o _ _ d λd=>?_;clear g K;refine wR 16 λK g=>?_;go_simp;refine g.o _ _ d λd=>?_;clear g K;refine wD ?_;try simp only[pU]
     go_wp2_with fail;go_meet;exact⟨rfl,d⟩
   case rest=>
   obtain⟨rfl,zu⟩:=hcut;have aO:=Zh (aj bK.o zu)
   cases hAB:(AR&&BL) with
   |true =>
    rw[hAB,Qu rfl]at p;obtain rfl:=p.o;clear zu p;go_wp2;go_ret3;exact⟨rfl,aO.o⟩
   |false =>
    rw[hAB,QC (by simp)]at p;obtain rfl:=p.o;clear zu p;go_wp2;go_ret3;exact⟨rfl,aO.o⟩
 .rw[QX z]at t;obtain rfl:KV=(0,0,F):=by rw[C.o,QC (λh=>z h.1)]
  clear C A X Ij Bh v W;go_enter Tryz.func101,Tryz.ntmps101;go_wp2_with fail;refine XO t ?_;clear t;rintro e w5 ⟨rfl,rfl⟩;go_wp2;go_ret3;exact⟨rfl,HC.o⟩
def Ee(ts:List ag)(q:af)(n:ai)(l r:gz):Bool:=
 (nR ts q n l.sources r.sources).2.2&&kQ ts q n l.sources r.sources&&aY l.order [(nR ts q n l.sources r.sources).1]&&aY r.order [(nR ts q n l.sources r.sources).2.1]
theorem KE(f:bq)(ts:List ag)(q:af)(n:ai)(l r:aK)(w:U)(ok:Ok ts q)(hf:f.At ts q w)(hn:n.cl.At w)(hl:l.Ok w)(hr:r.Ok w) :
  Cb 102 #[FN (f.cells ts q),FN n.cells,FN l.cells,FN r.cells] w (EP (Ee ts q n l.d r.d)):=by
 obtain⟨v0,v1,v2,v3,v4,v5,v6,v7,v8,v9,bn,bu,bz,dY,-⟩:=Jf f ts q;have nT:n.cells=#[I J n.kind,I J n.l,I J n.r,I J n.source,n.cl.val,I J n.key,n.co.val]:=rfl;have V9:l.cells=#[I J l.kind,I Dc (l.sources:Int),I Dc (l.clauses:Int),l.order.val,I Dc (l.size:Int),I Dc (l.cost:Int)]:=rfl;have m:r.cells=#[I J r.kind,I Dc (r.sources:Int),I Dc (r.clauses:Int),r.order.val,I Dc (r.size:Int),I Dc (r.cost:Int)]:=rfl;obtain⟨w1,av,ax,P⟩:=aX w ((f.cells ts q)) 63;obtain⟨w2,ay,az,Q⟩:=aX w1 n.cells 50;obtain⟨w3,aA,aB,R⟩:=aX w2 l.cells 120;obtain⟨w4,aC,aF,aG⟩:=aX w3 r.cells 120;have y:=aF;have z:=aj aB y;have A:=aj az z;have g:=aj ax A;have fG:=P.of (A.block _ P.lt);have jA:=Q.of (z.block _ Q.lt);obtain⟨jr,jO,jP,kM,jQ,mf,mh⟩:=jA.k7;have aa:=R.of (y.block _ R.lt);obtain⟨aH,Sl,aI,aJ,aL,aM⟩:=aa.k6;have ah:=aG;obtain⟨aN,Sm,aO,aP,aQ,aR⟩:=ah.k6;obtain⟨dM,dX,dQ,dR,eu,eU,eH,gq,gm,gp,bY,dw,bZ⟩:=fG.zR (by rw[dY];rfl);have p:=sj f ts q n l r w4 ok (hf.below g) (Qt g hn) hl.sources hr.sources;have B:Wl (∀x,Bw w4 x->_):=λx v=>wP f ts q n l r x ok (hf.below (aj g v)) (Qt (aj g v) hn) hl.sources hr.sources;have Od:Wl (∀x b c,Bw w4 x->Am x (aD b 0)=O (I J c)->Cb 105 #[Z l.order.ad (N l.order.xs) l.order.cap,Z (O (aD b 0)) 1 1] x (EP (aY l.order.xs [c]))):=
  λx b c v h0=>wF l.order.ad (O (aD b 0)) l.order.cap 1 l.order.xs [c] x (Qt (aj g v) hl.order) ⟨by simp,λi hi=>⟨b,0,rfl,by
   grind⟩⟩ hl.cap
 have nV:Wl (∀x b c,Bw w4 x->Am x (aD b 0)=O (I J c)->Cb 105 #[Z r.order.ad (N r.order.xs) r.order.cap,Z (O (aD b 0)) 1 1] x (EP (aY r.order.xs [c]))):=
  λx b c v h0=>wF r.order.ad (O (aD b 0)) r.order.cap 1 r.order.xs [c] x (Qt (aj g v) hr.order) ⟨by simp,λi hi=>⟨b,0,rfl,by
   grind⟩⟩ hr.cap
 have t:Wl (Ee ts q n l.d r.d=((nR ts q n l.sources r.sources).2.2&&kQ ts q n l.sources r.sources&&aY l.order.xs [(nR ts q n l.sources r.sources).1]&&aY r.order.xs [(nR ts q n l.sources r.sources).2.1])):=rfl;have HC:=Zh g;rw[dY,nT,V9,m]at p B;rw[dY]at av;rw[nT]at ay;rw[V9]at aA;rw[m]at aC;rw[dY,nT,V9,m];generalize Ee ts q n l.d r.d=MP at*;generalize kQ ts q n l.sources r.sources=JP at*;generalize nR ts q n l.sources r.sources=KP at*;obtain⟨ka,kb,aS⟩:=KP;obtain⟨nk,nl,nr,ns,⟨na,nc,nx⟩,ny,⟨oa,oc,ox⟩⟩:=n;obtain⟨lk,ls,V7,⟨la,UC,lx⟩,lz,bA⟩:=l;obtain⟨rk,rs,bB,⟨ra,bC,rx⟩,rz,bD⟩:=r;unfold ae.val at*;simp only at*
 cases aS with
 |false =>
  have u:Wl (MP=F):=by show _=_;rw[t.o];rfl
  go_enter Tryz.func102,Tryz.ntmps102;go_wp2_with fail;refine XO p ?_;rintro e w5 ⟨rfl,a⟩;have jS:=Zh (aj HC.o a);go_wp2;go_ret;exact⟨Qd u.o.symm,jS.o⟩
 |true =>
  go_enter Tryz.func102,Tryz.ntmps102;go_wp2_with fail;refine XO p ?_;rintro e w5 ⟨rfl,a⟩;obtain⟨bE,bF,bG,bH,bI,bK,bL,bM⟩:=qf a dM dX dQ dR eu eU eH gq;obtain⟨bN,bO,Sn,Sq,Sr,bP,bQ,bR⟩:=qf a gm gp bY dw bZ jr jO jP;obtain⟨bS,bT,bU,bV,bW,bX,cu,cz⟩:=qf a kM jQ mf mh aH aN Sl Sm;obtain⟨cK,cO,aT,aU,cZ,df,dh,di⟩:=qf a aI aO aJ aP aL aQ aM aR;have C:=B.o w5 a;obtain⟨jS,S⟩:=aV a (aj HC.o a)
  cases JP with
  |false =>
   have u:Wl (MP=F):=by show _=_;rw[t.o];rfl
   go_wp2_with fail;refine XO C ?_;rintro e w6 ⟨rfl,j⟩;have sN:=Zh (aj S.o j);go_wp2;go_ret;exact⟨Qd u.o.symm,sN.o⟩
  |true =>
   have D:Wl (MP=(aY lx [ka]&&aY rx [kb])):=by show _=_;rw[t.o];rfl
   go_wp2_with fail;refine XO C ?_;rintro e w6 ⟨rfl,j⟩;obtain⟨e3,e4⟩:=gy j aT aU;obtain⟨sN,aW⟩:=aV (aj jS.o j) (aj S.o j);obtain⟨wa,De⟩:∃x,w6.alloc (.cells #[I J ka] 3)=x:=⟨_,rfl⟩;have k:Bw w6 wa:=by rw[<-De];exact bJ _ _
   have G:=Od.o wa w6.heap.size ka (aj sN.o k) (by rw[<-De];simp);obtain⟨aZ,Mr⟩:=aV (aj sN.o k) (aj aW.o k);have ak:=cB k e4;generalize aY lx [ka]=S1 at*
   cases S1 with
   |false =>
    have u:Wl (MP=F):=by show _=_;rw[D.o];rfl
    go_wp2_with fail;refine XO G ?_;rintro e w7 ⟨rfl,W⟩;have Df:=Zh (aj Mr.o W);go_wp2;go_ret;exact⟨Qd u.o.symm,Df.o⟩
   |true =>
    have u:Wl (MP=aY rx [kb]):=by show _=_;rw[D.o];rfl
    go_wp2_with fail;refine XO G ?_;rintro e w7 ⟨rfl,W⟩;have bg:=cB W ak;obtain⟨Df,bf⟩:=aV (aj aZ.o W) (aj Mr.o W);obtain⟨wb,X⟩:∃x,w7.alloc (.cells #[I J kb] 3)=x:=⟨_,rfl⟩;have K:Bw w7 wb:=by rw[<-X];exact bJ _ _
    have L:=nV.o wb w7.heap.size kb (aj Df.o K) (by rw[<-X];simp);rw[<-u.o]at L;have Ij:=Zh (aj bf.o K);go_wp2_with fail;refine XO L ?_;rintro e w8 ⟨rfl,zu⟩;have au:=Zh (aj Ij.o zu);go_wp2;go_ret;exact⟨rfl,au.o⟩
def IU(ts:List ag)(src cols:List Int)(s i:Nat):Bool:=
 decide (0<=E cols i 0)&&decide (E cols i 0<ak ts src) && !decide (E cols i 0∈cols.take i)&&dG s (2 ^ au ts src (E cols i 0))
def agU(ts:List ag)(src cols:List Int)(s:Nat):xO ts src cols s=(decide (0<N cols)&&decide ((N cols:Int)<=ak ts src)&&(List.range (N cols)).all (IU ts src cols s)):=rfl
theorem OA(f:bq)(ts:List ag)(q:af)(la:Option Addr)(lc:Nat)(l:List Int)(s:Nat)(w:U)(ok:Ok ts q)(hf:jL w f.ca (iL ts q))(hl:aA w la l)(hcap:N l<=lc)(hs:s<18446744073709551616) :
  Cb 103 #[FN (f.cells ts q),Z la (N l) lc,I Dc (s:Int)] w (EP (xO ts q.src.xs l s)):=by
 obtain⟨v0,v1,v2,v3,v4,v5,v6,v7,v8,v9,aG,aH,aI,dY,-,-,-,-,-,-,-,ay,-⟩:=Jf f ts q;obtain⟨w1,X,aa,ae⟩:=aX w ((f.cells ts q)) 63;have u:=aa;have fG:=ae;obtain⟨dM,dX,dQ,dR,eu,eU,eH,gq,gm,gp,bY,dw,bZ⟩:=fG.zR (by rw[dY];rfl);subst ay;have A:=DV ok;have v:Wl (xO ts q.src.xs l s=(decide (0<N l)&&decide (N l<=N (iL ts q))&&(List.range (N l)).all (IU ts q.src.xs l s))):=by
  show _=_;have hd:decide ((N l:Int)<=(N (iL ts q):Int))=decide (N l<=N (iL ts q)):=by simp
  rw[agU,<-A,hd]
 have B:Wl (∀i,IU ts q.src.xs l s i=(decide (0<=E l i 0)&&decide (E l i 0<(N (iL ts q):Int)) && !decide (E l i 0∈l.take i)&&dG s (2 ^ au ts q.src.xs (E l i 0)))):=λi=>by unfold IU;rw[A]
 have uD:Wl (∀x b c,Bw w1 x->Am x (aD b 0)=O (I J c)->0<=c->c<(N (iL ts q):Int)->(Cb 96 #[FN (f.cells ts q),Z (O (aD b 0)) 1 1] x (I Dc ((2 ^ au ts q.src.xs c:Nat):Int)))/\2 ^ au ts q.src.xs c<18446744073709551616):=
  λx b c hb h0 h1 h2=>⟨Ai f ts q b c x ok (hf.below (aj u hb)) h0 (λc' aN=>by grind),XB (n:=64) (by omega) (Q0 (Hy ok h1 (by omega)) ok.small)⟩
 have C:Wl (∀x m,m<18446744073709551616->_):=λx m hm=>vU s m hs hm x;have K:Wl _:=Qt u hl;have az:=hl.1;have aB:=hf.1;have L:=Zh u;rw[dY]at uD X ⊢;generalize xO ts q.src.xs l s=SP at*;generalize IU ts q.src.xs l s=SA at*;obtain⟨SN,ah⟩:∃SN:Int->Nat,∀c,2 ^ au ts q.src.xs c=SN c:=⟨_,λ_=>rfl⟩;simp only[ah]at B uD;obtain⟨Rv,z⟩:=aV B.o uD.o;generalize iL ts q=CS at*;clear ah B uD A dY ae fG aa u hf hl ok hs;by_cases z0:N l=0
 .have p:Wl (SP=F):=by grind
  have zb:((N l:Int)==0)=true:=by rw[z0];rfl
  clear v Rv z C z0;go_enter Tryz.func103,Tryz.ntmps103;go_wp2;go_ret;exact⟨Qd p.o.symm,L.o⟩
 have zb:((N l:Int)==0)=false:=by rw[XN];omega
 by_cases z1:N CS<N l
 .have p:Wl (SP=F):=by grind
  have aC:(N CS:Int)<(N l:Int):=by omega
  clear v Rv z C z0;go_enter Tryz.func103,Tryz.ntmps103;go_wp2;go_ret;exact⟨Qd p.o.symm,L.o⟩
 have P:Wl (SP=(List.range (N l)).all SA):=by show _=_;rw[v.o,QD (by omega),QD (by omega)];rfl
 clear v z0;go_enter Tryz.func103,Tryz.ntmps103;go_wp2;clear X;go_loopw [22] (λiv wr=>∃k:Nat,k<=N l/\iv=I J k/\Wl (∀j,j<k->SA j=T)/\Bw w1 wr) (λiv _=>N l-(intOf iv).toNat)
 case atStart=>exact⟨0,Q4 _,rfl,λj hj=>absurd hj (by omega),Qr _ _⟩
 case round=>
  obtain⟨k,hk,rfl,HJ,d⟩:=hrel;by_cases ax:k<N l
  .obtain⟨lb,lo,rfl,ai⟩:=Qg K.o ax;have aF:=cB d (ai k ax);have r:=Zh (Rv.o k);have a:Wl (SA k=F->SP=F):=λe=>by rw[P.o,X5];grind
   have G:Wl (SA k=T->∀j,j<k+1->SA j=T):=λh j hj=>by
    rcases XM j k with h'|h'
    .exact HJ.o j h'
    grind
   have g:=Ca (O (aD lb lo)) lc (l.take k) (E l k 0) wr (Qt d (aA.take K.o k));rw[XK,Nat.min_eq_left (by omega)]at g;have Q:=Zh (aj L.o d);clear ai HJ Rv;generalize l.take k=LT at*;generalize E l k 0=c at*;by_cases h1:c<0
   .have p:=Zh (a.o (by rw[r.o,QX (by omega)];rfl));clear r a G g;go_wp2;go_ret;exact⟨Qd p.o.symm,Q.o⟩
   have p7:=cB d gq;by_cases h2:(N CS:Int)<=c
   .have p:=Zh (a.o (by rw[r.o,QX (show ¬c<(N CS:Int) by omega),XZ];rfl));clear r a G g;go_wp2;go_ret;exact⟨Qd p.o.symm,Q.o⟩
   clear p7;obtain⟨q0,q1,q2,q3,q4,q5,q6,q7⟩:=qf d dM dX dQ dR eu eU eH gq;obtain⟨q8,q9,aJ,aK,aL⟩:=ji d gm gp bY dw bZ;by_cases h3:c∈LT
   .have p:=Zh (a.o (by rw[r.o,QD h3];simp));rw[QD h3]at g;clear r a G h3;go_wp2_with fail;refine XO g ?_;clear g;rintro e w2 ⟨rfl,rfl⟩;go_wp2;go_ret;exact⟨Qd p.o.symm,Q.o⟩
   rw[QX h3]at g r;obtain⟨wa,De⟩:∃x,wr.alloc (.cells #[I J c] 3)=x:=⟨_,rfl⟩;have y:Bw wr wa:=by rw[<-De];exact bJ _ _
   obtain⟨YO,ak⟩:=z.o wa wr.heap.size c (aj d y) (by rw[<-De];simp) (by omega) (by omega);obtain⟨av,aM⟩:=aV (aj d y) y;generalize SN c=m at*;have R:Wl (∀x,_):=λx=>C.o x m ak;have S:decide (0<=c)=true:=QD (by omega);have W:decide (c<(N CS:Int))=true:=QD (by omega);rw[S,W]at r;generalize dG s m=CB at*;clear S W y ak h3
   cases CB with
   |true =>
    have HT:=Zh (G.o (by rw[r.o];rfl));clear r a G;go_wp2_with fail;refine XO g ?_;clear g;rintro e w2 ⟨rfl,rfl⟩;go_wp2_with fail;refine XO YO ?_;clear YO De;rintro e w3 ⟨rfl,t⟩;have D:=Zh (aj av.o t);clear t d;go_wp2_with fail;refine XO (R.o _) ?_;rintro e w4 ⟨rfl,rfl⟩;go_wp2;go_roundw
    case rel=>exact⟨k+1,by omega,by go_num,HT.o,D.o⟩
    case measure=>simp[intOf];omega
   |false =>
    have p:=Zh (a.o (by rw[r.o];rfl));clear r a G;go_wp2_with fail;refine XO g ?_;clear g;rintro e w2 ⟨rfl,rfl⟩;go_wp2_with fail;refine XO YO ?_;clear YO De;rintro e w3 ⟨rfl,t⟩;have D:=Zh (aj L.o (aj av.o t));clear t d;go_wp2_with fail;refine XO (R.o _) ?_;rintro e w4 ⟨rfl,rfl⟩;go_wp2;go_ret;exact⟨Qd p.o.symm,D.o⟩
  .have p:Wl (SP=T):=by show _=_;rw[P.o,Qn];exact λi hi=>HJ.o i (by have:=Zk.1 hi;omega)
   have Q:=Zh (aj L.o d);clear HJ Rv z d;go_wp2;go_ret;exact⟨Qd p.o.symm,Q.o⟩
def ajY(f:bq)(ts:List ag)(q:af)(n:ai)(ao:Option Addr)(cap:Nat)(ps:List aK)(w:U)(ok:Ok ts q)(hf:f.At ts q w)(hcl:n.cl.At w)(hco:n.co.At w)(hcap:N n.co.xs<=n.co.cap)(hp:bP w ao ps)(hk:n.kind=6)(hl:N ps=arity n.kind) :
  Cb 54 #[FN (f.cells ts q),FN n.cells,Z ao (N ps) cap] w (EP (dA ts q n (E ps 0 bz).d (E ps 1 bz).d)):=by
 obtain⟨v0,v1,v2,v3,v4,v5,v6,v7,v8,v9,ak,au,av,i,t,u,v,y,z,A,B,-⟩:=Jf f ts q;have m:n.cells=#[I J n.kind,I J n.l,I J n.r,I J n.source,n.cl.val,I J n.key,n.co.val]:=rfl;obtain⟨w1,C,D,j⟩:=aX w ((f.cells ts q)) 63;obtain⟨w2,G,K,P⟩:=aX w1 n.cells 50;have e:=K;have a:=aj D e;have X:=j.of (e.block _ j.lt);have jA:=P;obtain⟨jr,jO,jP,kM,jQ,mf,mh⟩:=jA.k7;obtain⟨dM,dX,dQ,dR,eu,eU,eH,gq,gm,gp,bY,dw,bZ⟩:=X.zR (by rw[i];rfl);have aa:=hp.1;have ah:N ps=1:=by rw[hl,hk];rfl
 have HC:=Zh a;obtain⟨Q,b⟩:∃R,R=dA ts q n (E ps 0 bz).d (E ps 1 bz).d:=⟨_,rfl⟩;rw[<-b];unfold dA at b;rw[QC (by rw[hk];decide),QC (by rw[hk];decide),QC (by rw[hk];decide),QC (by rw[hk];decide),QC (by rw[hk];decide),Qu hk]at b;have p:0<N ps:=by omega
 obtain⟨⟨pb,po,rfl,c0,c1,c2,c3,c4,c5⟩,S⟩:=(XA a hp).2 0 p;rw[XI,Zp]at c0 c1 c2 c3 c4 c5;generalize E ps 0 bz=L at*;generalize E ps 1 bz=R at*;have g:Wl (∀x,Bw w2 x->Cb 103 #[FN (f.cells ts q),n.co.val,I Dc (L.sources:Int)] x (EP (xO ts q.src.xs n.co.xs L.sources))):=λx k=>OA f ts q n.co.ad n.co.cap n.co.xs L.sources x ok (jL.below (aj a k) hf.cols) (Qt (aj a k) hco) hcap (by have:=S.sources;unfold aU at this;omega);rw[i]at g;have b:Q=xO ts q.src.xs n.co.xs L.sources:=b;generalize xO ts q.src.xs n.co.xs L.sources=RB at*;have W:=Zh b;rw[i,m];rw[i]at C;rw[m]at G;clear hf hcl hco hcap hp ok i m t u v y z A B;obtain⟨nk,nl,nr,ns,⟨ca,cc,cl⟩,key,⟨da,dc,co⟩⟩:=n;simp only at hk;subst hk;obtain⟨lk,ls,V7,⟨la,UC,lx⟩,lz,ax⟩:=L;simp only[aK.cells,ai.cells,ae.val]at*;have HV:=Zh W.o;clear W;go_enter Tryz.func54,Tryz.ntmps54;go_upto_region 14 with fail;refine Qw ?_;refine qA6 ?_;refine lQ ?_;go_big_quiet_want;refine⟨EP RB,λx k=>?_,?_⟩
 .have hC:=Qx k (g.o x k);go_simp
 simp only[pU];go_big_quiet_on;refine lQ ?_;refine XH ?_;intro wE rZ;have uF:=Zh (aj HC.o rZ);go_wp2;go_ret;exact⟨Qd HV.o.symm,uF.o⟩
def ajZ(f:bq)(ts:List ag)(q:af)(n:ai)(ao:Option Addr)(cap:Nat)(ps:List aK)(w:U)(ok:Ok ts q)(hf:f.At ts q w)(hcl:n.cl.At w)(hco:n.co.At w)(hcap:N n.co.xs<=n.co.cap)(hp:bP w ao ps)(hk:n.kind=7)(hl:N ps=arity n.kind) :
  Cb 54 #[FN (f.cells ts q),FN n.cells,Z ao (N ps) cap] w (EP (dA ts q n (E ps 0 bz).d (E ps 1 bz).d)):=by
 obtain⟨v0,v1,v2,v3,v4,v5,v6,v7,v8,v9,ak,au,av,b,y,z,i,A,B,C,D,-⟩:=Jf f ts q;have m:n.cells=#[I J n.kind,I J n.l,I J n.r,I J n.source,n.cl.val,I J n.key,n.co.val]:=rfl;obtain⟨w1,G,K,j⟩:=aX w ((f.cells ts q)) 63;obtain⟨w2,P,Q,S⟩:=aX w1 n.cells 50;have e:=Q;have g:=aj K e;have fG:=j.of (e.block _ j.lt);have jA:=S;obtain⟨jr,jO,jP,kM,jQ,mf,mh⟩:=jA.k7;obtain⟨dM,dX,dQ,dR,eu,eU,eH,gq,gm,gp,bY,dw,bZ⟩:=fG.zR (by rw[b];rfl);have aa:=hp.1;have ah:N ps=1:=by rw[hl,hk];rfl
 have HC:=Zh g;obtain⟨k,a⟩:∃R,R=dA ts q n (E ps 0 bz).d (E ps 1 bz).d:=⟨_,rfl⟩;rw[<-a];unfold dA at a;rw[QC (by rw[hk];decide),QC (by rw[hk];decide),QC (by rw[hk];decide),QC (by rw[hk];decide),QC (by rw[hk];decide),QC (by rw[hk];decide),Qu hk]at a;have p:0<N ps:=by omega
 obtain⟨⟨pb,po,rfl,c0,c1,c2,c3,c4,c5⟩,ax⟩:=(XA g hp).2 0 p;rw[XI,Zp]at c0 c1 c2 c3 c4 c5;generalize E ps 0 bz=L at*;generalize E ps 1 bz=R at*;have t:Wl (∀x,Bw w2 x->Cb 104 #[FN (f.cells ts q),FN L.cells] x (EP (jV q L.d))):=λx X=>yI f ts q L x;rw[b]at t;rw[i]at dQ t b;have a:=a;generalize jV q L.d=RB at*;generalize q.group=gr at*;have uf:=Zh a;rw[b,m];rw[b]at G;rw[m]at P;clear hf hcl hco hcap hp ok b m y z i A B C D;obtain⟨nk,nl,nr,ns,⟨ca,cc,cl⟩,key,⟨da,dc,co⟩⟩:=n;simp only at hk;subst hk;obtain⟨lk,ls,V7,⟨la,UC,lx⟩,lz,ay⟩:=L;simp only[aK.cells,ai.cells,ae.val]at*
 cases gr with
 |true =>
  have u:Wl (k=RB):=by show _=_;rw[uf.o];rfl
  go_enter Tryz.func54,Tryz.ntmps54;go_upto_region 16 with fail;refine Qw ?_;refine qA8 ?_;go_big_quiet_want;refine⟨EP RB,λx X=>?_,?_⟩
  .have hC:=Qx X (t.o x X);go_simp
  simp only[pU];go_big_quiet_on;refine Gw ?_;refine XH ?_;intro wE W;have v:=Zh (aj HC.o W);go_wp2;go_ret;exact⟨Qd u.o.symm,v.o⟩
 |false =>
  have u:Wl (k=F):=by show _=_;rw[uf.o];rfl
  go_enter Tryz.func54,Tryz.ntmps54;go_upto_region 16 with fail;refine Qw ?_;refine qA4 ?_;go_big_quiet_skip;try simp only[pU]
  iterate 4 (go_big_quiet_skip;try simp only[pU])
  refine Gw ?_;refine XH ?_;intro wE W;have v:=Zh (aj HC.o W);go_wp2;go_ret;exact⟨Qd u.o.symm,v.o⟩
