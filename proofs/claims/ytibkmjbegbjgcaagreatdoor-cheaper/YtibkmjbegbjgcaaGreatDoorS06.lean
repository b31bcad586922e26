import Derived.Test.YtibkmjbegbjgcaaGreatDoorS03
set_option linter.all false
set_option maxRecDepth 100000
set_option maxHeartbeats 0
namespace Go.Proofs.Zz
open Go.RowKit Go.Shelf Go.Proofs.Tryz
open List renaming length->N,getD->E
open Go.Value renaming slice->Z,int->I,bool->Qr,agg->Qu
open Option renaming some->O
open Go.IntKind renaming i64->J,u64->Qq
open Bool renaming false->F,true->T
open Go renaming World->U
open Go.RowKit renaming Hid->Qn
open Go.World renaming cell?->Qp
theorem Wn(ts:Qy af)(src:Qx)(cs:Qy aA)(a b:Nat):O3 ts src cs a b =
  if (bF cs).2.2=F then (0,0,F)
  else if (aT a (2 ^ aY ts src (bF cs).1)&&aT b (2 ^ aY ts src (bF cs).2.1))=T then ((bF cs).1,(bF cs).2.1,T)
  else if (aT a (2 ^ aY ts src (bF cs).2.1)&&aT b (2 ^ aY ts src (bF cs).1))=T then ((bF cs).2.1,(bF cs).1,T)
  else (0,0,F):=by unfold O3 bF;grind
theorem Ee{ts:Qy af}{q:ae}(ok:Ok ts q){k:Nat}(hk:k<N q.wh)(h:(bF (E q.wh k lz).cs).2.2=T):gB ts q [(bF (E q.wh k lz).cs).1]/\gB ts q [(bF (E q.wh k lz).cs).2.1]:=by
 have f:=ok.some k hk;have g:=ok.aL k hk;generalize (E q.wh k lz).cs=cs at*;unfold bF at h ⊢;by_cases e:N cs > 1∨(E cs 0 cz).op≠0∨(E cs 0 cz).not=T∨(E cs 0 cz).const=T
 .rw[Zb e]at h;cases h
 rw[Zg e];have d:∀x,x∈aK (E cs 0 cz)->x∈bX cs:=λx a=>X5.2 ⟨_,Xy f,a⟩;have i:(E cs 0 cz).op=0:=by omega
 have j:(E cs 0 cz).const=false:=by grind
 have b:aK (E cs 0 cz)=[(E cs 0 cz).left,(E cs 0 cz).right]:=by unfold aK;grind
 rw[b]at d;refine⟨λc a=>?_,λc a=>?_⟩
 .grind
 .rw[Xj]at a;rw[a];exact g _ (d _ Qa)
theorem oL(ca:PN)(cc:Nat)(cs:Qy aA)(w:U)(hx:bE w ca cs)(h0:0<N cs) :
  Cb 82 #[Qu #[Z ca (N cs) cc]] w (.tuple #[I J (bF cs).1,I J (bF cs).2.1,Qr (bF cs).2.2]):=by
 obtain⟨B,co,rfl,p,q,r,t,u⟩:=hx.2 0 h0;have y:=hx.1;rw[Nat.zero_mul,XH]at p q r t u;have d:Qn (bF cs=if (N cs) > 1∨(E cs 0 cz).op≠0∨(E cs 0 cz).not=T∨(E cs 0 cz).const=T then (0,0,F) else ((E cs 0 cz).left,(E cs 0 cz).right,T)):=rfl;generalize bF cs=EC,E cs 0 cz=c at*;obtain⟨i,k,left,a,right⟩:=c;simp only at*;obtain⟨C,D,j,b⟩:=bC w #[Z (O (aD B co)) (N cs) cc] 70;obtain⟨Q,G,m,n⟩:=bC C #[Qr i,I J k,I J left,Qr a,I J right] 66;have e:=m;have l:=az j e;have z:=b.of (e.block _ b.lt);have L:=z.at 0;have A:=n;obtain⟨R,S,W,MS,Av⟩:=A.k5;have P:=b.at 0;obtain⟨d0,d1,d2,d3,d4⟩:=jW j p q r t u;have f:=Zh l;by_cases K:N cs > 1
 .obtain rfl:EC=(0,0,F):=by rw[d.o,Zb (.inl K)]
  go_enter func82,ntmps82;go_wp2;go_ret3;exact⟨rfl,f.o⟩
 by_cases v:k≠0
 .obtain rfl:EC=(0,0,F):=by rw[d.o,Zb (.inr (.inl v))]
  have g:(k != 0)=true:=by rw[bne_iff_ne];exact v
  go_enter func82,ntmps82;go_wp2;go_ret3;exact⟨rfl,f.o⟩
 have g:k=0:=X;subst g
 cases i with
 |true =>
  obtain rfl:EC=(0,0,F):=by rw[d.o,Zb (.inr (.inr (.inl rfl)))]
  go_enter func82,ntmps82;go_wp2;go_ret3;exact⟨rfl,f.o⟩
 |false =>
  cases a with
  |true =>
   obtain rfl:EC=(0,0,F):=by rw[d.o,Zb (.inr (.inr (.inr rfl)))]
   go_enter func82,ntmps82;go_wp2;go_ret3;exact⟨rfl,f.o⟩
  |false =>
   obtain rfl:EC=(left,right,T):=by rw[d.o,Zg];grind
   go_enter func82,ntmps82;go_wp2;go_quiet (fail);go_wp2;go_ret3;exact⟨rfl,below_drewN f.o _⟩
theorem tZ(f:ay)(ts:Qy af)(q:ae)(b:Nat)(c:Int)(w:U)(ok:Ok ts q)(hf:fK w f.ca (gz ts q))(h0:Qp w (aD b 0)=O (I J c))(hc:gB ts q [c]) :
  Cb 80 #[Qu (f.cells ts q),Z (O (aD b 0)) 1 1] w (I Qq ((2 ^ aY ts q.src.xs c:Nat):Int)):=by
 have h:=nY f ts q (O (aD b 0)) 1 [c] w ok hf ⟨Qa,λi a=>⟨b,0,rfl,by
  grind⟩⟩ hc
 have e:bD (dZ ts q [c])=2 ^ aY ts q.src.xs c:=z8 _;rw[e]at h;exact h
def mY(f:ay)(ts:Qy af)(q:ae)(n:ai)(l r:aC)(w:U)(ok:Ok ts q)(hf:f.At ts q w)(hn:n.cl.At w)(hl:l.sources<=bQ)(hr:r.sources<=bQ) :
  Cb 157 #[Qu (f.cells ts q),Qu n.cells,Qu l.cells,Qu r.cells] w (.tuple #[I J (iF ts q n l.sources r.sources).1,I J (iF ts q n l.sources r.sources).2.1,Qr (iF ts q n l.sources r.sources).2.2]):=by
 obtain⟨v0,v1,v2,v3,v4,v5,v6,v7,v8,v9,bR,bS,bT,bZ,-,bH,-⟩:=XY f ts q;obtain⟨w1,au,aP,av⟩:=bC w ((f.cells ts q)) 82;obtain⟨w2,bI,aQ,ax⟩:=bC w1 n.cells 138;obtain⟨w3,bJ,aR,aA⟩:=bC w2 l.cells 102;obtain⟨w4,bK,aU,aV⟩:=bC w3 r.cells 102;have R:=aU;have S:=az aR R;have W:=az aQ S;have u:=az aP W;have lu:=av.of (W.block _ av.lt);have tT:=ax.of (S.block _ ax.lt);have Av:=tT.at 4;have MU:=tT.at 5;have aI:=aA.of (R.block _ aA.lt);have VJ:=aI.at 1;have aJ:=aV;have VK:=aJ.at 1;obtain⟨iZ,jJ,kT,jY,jZ,kU,kV,qG,qE,qF,jB,lK,jC⟩:=lu.k13 (by rw[bZ];rfl);have aK:l.sources<18446744073709551616:=by unfold bQ at hl;omega
 have aM:r.sources<18446744073709551616:=by unfold bQ at hr;omega
 have aN:Qn _:=vP n.cl.ad n.cl.cap n.cl.xs n.key w4 (Q8 u hn);have D:Qn (iF ts q n l.sources r.sources=if n.key∈n.cl.xs/\0<=n.key/\n.key<N q.wh then O3 ts q.src.xs (E q.wh n.key.toNat lz).cs l.sources r.sources else (0,0,F)):=rfl;have A:Qn (∀x b c,Bw w4 x->Qp x (aD b 0)=O (I J c)->gB ts q [c]->Cb 80 #[Qu (f.cells ts q),Z (O (aD b 0)) 1 1] x (I Qq ((2 ^ aY ts q.src.xs c:Nat):Int))):=
  λx b c hb L hc=>tZ f ts q b c x ok (hf.aL.below (az u hb)) L hc
 have HP:Qn (∀c,gB ts q [c]->2 ^ aY ts q.src.xs c<18446744073709551616):=λc hc=>by obtain⟨L,h1⟩:=hc c Qa;exact XN (n:=64) X (Zy (Ao ok L h1) ok.small)
 have Ef:Qn (∀x m,m<18446744073709551616->_):=λx m hm=>kX l.sources m aK hm x;have pY:Qn (∀x m,m<18446744073709551616->_):=λx m hm=>kX r.sources m aM hm x;have Cx:Qn (∀k,k<N q.wh->(∃b C,q.cK=O (aD b C)/\Qp w4 (aD b (C+k))=O (Z (E q.wh k lz).ad (E q.wh k lz).cs.length (E q.wh k lz).cap))/\bE w4 (E q.wh k lz).ad (E q.wh k lz).cs/\0<(E q.wh k lz).cs.length):=λk G=>by have hW:=hf.query.wh.below u;obtain⟨b,C,e,hc⟩:=hW.2.1 k G;exact⟨⟨b,C,e,hc⟩,hW.2.2 k G,ok.some k G⟩
 have v:Qn (∀k,k<N q.wh->_):=λk G=>@Ee ts q ok k G;have bP:=hf.query.wh.1;have HC:=Zh u;rw[bZ]at A au ⊢;subst bH;obtain⟨nk,nl,nr,ns,⟨na,nc,nx⟩,ny,no⟩:=n;unfold ah.val at*;simp only at*;generalize bN:iF ts q _ l.sources r.sources=KV at*;clear bN;generalize ai.cells _=NC,l.cells=LC,r.cells=RC,l.sources=a,r.sources=b at*;clear u W S R aP aQ aR aU av ax aA aV lu tT aI aJ hf ok hn hl hr aK aM bZ;have t:=aN.o;clear aN;by_cases z:ny∈nx
 .rw[Zi z]at t;by_cases L:ny<0
  .obtain rfl:KV=(0,0,F):=by rw[D.o,Zg (λh=>absurd h.2.1 X)]
   clear D A Ef pY Cx v HP;go_enter func157,ntmps157;go_wp2_with fail;refine XX t ?_;clear t;rintro e w5 ⟨rfl,rfl⟩;go_wp2;go_ret3;exact⟨rfl,HC.o⟩
  by_cases h1:(N q.wh:Int)<=ny
  .obtain rfl:KV=(0,0,F):=by rw[D.o,Zg (λh=>absurd h.2.2 X)]
   clear D A Ef pY Cx v HP;go_enter func157,ntmps157;go_wp2_with fail;refine XX t ?_;clear t;rintro e w5 ⟨rfl,rfl⟩;go_wp2;go_ret3;exact⟨rfl,HC.o⟩
  obtain⟨k,rfl⟩:=XR (show 0<=ny by omega);have G:k<N q.wh:=X;have p:=Zh D.o;rw[Zb ⟨z,X,X⟩,Xv,Wn]at p;obtain⟨⟨qb,qo,aW,bL⟩,y,P⟩:=Cx.o k G;have aa:=Zh (v.o k G);rw[aW]at jJ A au ⊢;have B:=oL (E q.wh k lz).ad (E q.wh k lz).cap (E q.wh k lz).cs w4 y P;clear D Cx v y P aW z;generalize (E q.wh k lz).cap=Mo,(E q.wh k lz).ad=cad,(E q.wh k lz).cs=cs at*;generalize bF cs=EC at*;obtain⟨EL,ER,EB⟩:=EC;simp only at*;generalize bO:N q.wh=nw at*;clear bO
  cases EB with
  |false =>
   obtain rfl:KV=(0,0,F):=by rw[p.o,Zb rfl]
   clear p A Ef pY aa HP;go_enter func157,ntmps157;go_wp2_with fail;refine XX t ?_;clear t;rintro e w5 ⟨rfl,rfl⟩;go_wp2_with fail;refine XX B ?_;clear B;rintro e w6 ⟨rfl,i⟩;have zg:=Zh (az HC.o i);clear i;go_wp2;go_ret3;exact⟨rfl,zg.o⟩
  |true =>
   obtain⟨aB,aF⟩:=aa.o rfl;have ag:=HP.o EL aB;have aj:=HP.o ER aF;have DY:Qn (∀x b,_->_->_):=λx b hb L=>A.o x b EL hb L aB;have ak:Qn (∀x b,_->_->_):=λx b hb L=>A.o x b ER hb L aF;rw[Zg Qa]at p;generalize 2 ^ aY ts q.src.xs EL=SL,2 ^ aY ts q.src.xs ER=SR at*;have V7:Qn (∀x,_):=λx=>Ef.o x SL ag;have aO:Qn (∀x,_):=λx=>Ef.o x SR aj;have Sq:Qn (∀x,_):=λx=>pY.o x SL ag;have Eg:Qn (∀x,_):=λx=>pY.o x SR aj;generalize aT a SL=AL,aT a SR=AR,aT b SL=BL,aT b SR=BR at*;clear aa HP A Ef pY aB aF ag aj;go_enter func157,ntmps157;go_wp2_with fail;refine XX t ?_;clear t;rintro e w5 ⟨rfl,rfl⟩;go_wp2_with fail;refine XX B ?_;clear B au bI bJ bK;rintro e w6 ⟨rfl,i⟩;obtain⟨aX,aZ,bf,bg,bn,bq,bu,bz⟩:=kS i VJ VK iZ jJ kT jY jZ kU;obtain⟨bA,bB,bD,bG,Wo⟩:=jW i kV qG qE qF jB;obtain⟨Wu,Wv⟩:=jf i lK jC;obtain⟨zg,aG⟩:=aS i (az HC.o i);clear i bL Av MU VJ VK iZ jJ kT jY jZ kU kV qG qE qF jB lK jC;go_upto_region 6 with fail;go_cut [48] from 49 to 64 (λc wx=>c=Qr (AL&&BR)/\Bw w6 wx)
   case first=>
    cases AL with
    |true =>
     refine wH w6 λd=>?_;refine wA4 0 d ?_;refine wR 4 λK g=>?_;go_simp;refine oA g d λd=>?_;clear g K;refine wR 5 λK g=>?_;go_simp;refine XX (DY.o _ w6.heap.size (az zg.o d) Qa) ?_;rintro e wy ⟨rfl,j⟩;refine oT g d j λd=>?_;clear g K;refine wR 6 λK g=>?_;go_simp;refine XX (V7.o _) ?_;rintro e wz ⟨rfl,rfl⟩;refine g.o _ _ d λd=>?_;clear g K;refine wR 7 λK g=>?_;go_simp;refine g.o _ _ d λd=>?_;clear g K;refine wA4 8 d ?_;refine wR 12 λK g=>?_;go_simp;refine oA g d λd=>?_;clear g K;refine wR 13 λK g=>?_;go_simp;refine XX (ak.o _ wz.heap.size (az zg.o d) Qa) ?_;rintro e wu ⟨rfl,aH⟩;refine oT g d aH λd=>?_;clear g K;refine wR 14 λK g=>?_;go_simp;refine XX (Eg.o _) ?_;rintro e wv ⟨rfl,rfl⟩;refine g.o _ _ d λd=>?_;clear g K;refine wR 15 λK g=>?_;go_simp;refine g.o _ _ d λd=>?_;clear g K;refine wR 16 λK g=>?_;go_simp;refine g.o _ _ d λd=>?_;clear g K;refine wD ?_;try simp only[pU]
     go_wp2_with fail;go_meet;exact⟨rfl,d⟩
    |false =>
     refine wH w6 λd=>?_;refine wA4 0 d ?_;refine wR 4 λK g=>?_;go_simp;refine oA g d λd=>?_;clear g K;refine wR 5 λK g=>?_;go_simp;refine XX (DY.o _ w6.heap.size (az zg.o d) Qa) ?_;rintro e wy ⟨rfl,j⟩;refine oT g d j λd=>?_;clear g K;refine wR 6 λK g=>?_;go_simp;refine XX (V7.o _) ?_;rintro e wz ⟨rfl,rfl⟩;refine g.o _ _ d λd=>?_;clear g K;refine wR 7 λK g=>?_;go_simp;refine g.o _ _ d λd=>?_;clear g K;refine wV 8 d ?_;refine wV 9 d ?_;refine wV 10 d ?_;refine wV 11 d ?_;refine wV 12 d ?_;refine wV 13 d ?_;refine wV 14 d ?_;refine wR 15 λK g=>?_;go_simp;refine g.o _ _ d λd=>?_;clear g K;refine wR 16 λK g=>?_;go_simp;refine g.o _ _ d λd=>?_;clear g K;refine wD ?_;try simp only[pU]
     go_wp2_with fail;go_meet;exact⟨rfl,d⟩
   case rest=>
   obtain⟨rfl,Q⟩:=hcut
   cases hAB:(AL&&BR) with
   |true =>
    rw[hAB,Zb rfl]at p;obtain rfl:=p.o;have VL:=Zh (az aG.o Q);clear Q p;go_wp2;go_ret3;exact⟨rfl,VL.o⟩
   |false =>
   rw[hAB,Zg Qa]at p;obtain⟨VL,bM⟩:=aS (az zg.o Q) (az aG.o Q);obtain⟨bU,bV,bW,bX,bY,cu,cz,cO⟩:=kS Q aX aZ bf bg bn bq bu bz;obtain⟨cZ,df,dh,di,dm⟩:=jW Q bA bB bD bG Wo;obtain⟨dn,dw⟩:=jf Q Wu Wv;clear Q hAB zg aG aX aZ bf bg bn bq bu bz bA bB bD bG Wo Wu Wv;go_upto_region 8 with fail;go_cut [67] from 68 to 83 (λc wy=>c=Qr (AR&&BL)/\Bw wc wy)
   case first=>
    cases AR with
    |true =>
     refine wH wc λd=>?_;refine wA4 0 d ?_;refine wR 4 λK g=>?_;go_simp;refine oA g d λd=>?_;clear g K;refine wR 5 λK g=>?_;go_simp;refine XX (ak.o _ wc.heap.size (az VL.o d) Qa) ?_;rintro e wy ⟨rfl,j⟩;refine oT g d j λd=>?_;clear g K;refine wR 6 λK g=>?_;go_simp;refine XX (aO.o _) ?_;rintro e wz ⟨rfl,rfl⟩;refine g.o _ _ d λd=>?_;clear g K;refine wR 7 λK g=>?_;go_simp;refine g.o _ _ d λd=>?_;clear g K;refine wA4 8 d ?_;refine wR 12 λK g=>?_;go_simp;refine oA g d λd=>?_;clear g K;refine wR 13 λK g=>?_;go_simp;refine XX (DY.o _ wz.heap.size (az VL.o d) Qa) ?_;rintro e wu ⟨rfl,aH⟩;refine oT g d aH λd=>?_;clear g K;refine wR 14 λK g=>?_;go_simp;refine XX (Sq.o _) ?_;rintro e wv ⟨rfl,rfl⟩;refine g.o _ _ d λd=>?_;clear g K;refine wR 15 λK g=>?_;go_simp;refine g.o _ _ d λd=>?_;clear g K;refine wR 16 λK g=>?_;go_simp;refine g.o _ _ d λd=>?_;clear g K;refine wD ?_;try simp only[pU]
     go_wp2_with fail;go_meet;exact⟨rfl,d⟩
    |false =>
     refine wH wc λd=>?_;refine wA4 0 d ?_;refine wR 4 λK g=>?_;go_simp;refine oA g d λd=>?_;clear g K;refine wR 5 λK g=>?_;go_simp;refine XX (ak.o _ wc.heap.size (az VL.o d) Qa) ?_;rintro e wy ⟨rfl,j⟩;refine oT g d j λd=>?_;clear g K;refine wR 6 λK g=>?_;go_simp;refine XX (aO.o _) ?_;rintro e wz ⟨rfl,rfl⟩;refine g.o _ _ d λd=>?_;clear g K;refine wR 7 λK g=>?_;go_simp;refine g.o _ _ d λd=>?_;clear g K;refine wV 8 d ?_;refine wV 9 d ?_;refine wV 10 d ?_;refine wV 11 d ?_;refine wV 12 d ?_;refine wV 13 d ?_;refine wV 14 d ?_;refine wR 15 λK g=>?_;go_simp;refine g.o _ _ d λd=>?_;clear g K;refine wR 16 λK g=>?_;go_simp;refine g.o _ _ d λd=>?_;clear g K;refine wD ?_;try simp only[pU]
     go_wp2_with fail;go_meet;exact⟨rfl,d⟩
   case rest=>
   obtain⟨rfl,JN⟩:=hcut;have Su:=Zh (az bM.o JN)
   cases hAB:(AR&&BL) with
   |true =>
    rw[hAB,Zb rfl]at p;obtain rfl:=p.o;clear JN p;go_wp2;go_ret3;exact⟨rfl,Su.o⟩
   |false =>
    rw[hAB,Zg Qa]at p;obtain rfl:=p.o;clear JN p;go_wp2;go_ret3;exact⟨rfl,Su.o⟩
 .rw[Zr z]at t;obtain rfl:KV=(0,0,F):=by rw[D.o,Zg (λh=>z h.1)]
  clear D A Ef pY Cx v HP;go_enter func157,ntmps157;go_wp2_with fail;refine XX t ?_;clear t;rintro e w5 ⟨rfl,rfl⟩;go_wp2;go_ret3;exact⟨rfl,HC.o⟩
def BZ(ts:Qy af)(src aL:Qx)(s i:Nat):Bool:=
 decide (0<=E aL i 0)&&decide (E aL i 0<aN ts src) && !decide (E aL i 0∈aL.take i)&&aT s (2 ^ aY ts src (E aL i 0))
def Y5(ts:Qy af)(src aL:Qx)(s:Nat):lF ts src aL s=(decide (0<N aL)&&decide ((N aL:Int)<=aN ts src)&&(List.range (N aL)).all (BZ ts src aL s)):=rfl
theorem Gm(f:ay)(ts:Qy af)(q:ae)(la:PN)(lc:Nat)(l:Qx)(s:Nat)(w:U)(ok:Ok ts q)(hf:fK w f.ca (gz ts q))(hl:IntsAt w la l)(hcap:N l<=lc)(hs:s<18446744073709551616) :
  Cb 159 #[Qu (f.cells ts q),Z la (N l) lc,I Qq (s:Int)] w (Qr (lF ts q.src.xs l s)):=by
 obtain⟨v0,v1,v2,v3,v4,v5,v6,v7,v8,v9,aC,aF,aG,bZ,-,-,-,-,-,-,-,au,-⟩:=XY f ts q;obtain⟨w1,S,W,aa⟩:=bC w ((f.cells ts q)) 82;have u:=W;have lu:=aa;obtain⟨iZ,jJ,kT,jY,jZ,kU,kV,qG,qE,qF,jB,lK,jC⟩:=lu.k13 (by rw[bZ];rfl);subst au;have z:=xZ ok;have v:Qn (lF ts q.src.xs l s=(decide (0<N l)&&decide (N l<=N (gz ts q))&&(List.range (N l)).all (BZ ts q.src.xs l s))):=by show _=_;have hd:decide ((N l:Int)<=(N (gz ts q):Int))=decide (N l<=N (gz ts q)):=Qa;rw[Y5,<-z,hd]
 have A:Qn (∀i,BZ ts q.src.xs l s i=(decide (0<=E l i 0)&&decide (E l i 0<(N (gz ts q):Int)) && !decide (E l i 0∈l.take i)&&aT s (2 ^ aY ts q.src.xs (E l i 0)))):=λi=>by unfold BZ;rw[z]
 have vB:Qn (∀x b c,Bw w1 x->Qp x (aD b 0)=O (I J c)->0<=c->c<(N (gz ts q):Int)->(Cb 80 #[Qu (f.cells ts q),Z (O (aD b 0)) 1 1] x (I Qq ((2 ^ aY ts q.src.xs c:Nat):Int)))/\2 ^ aY ts q.src.xs c<18446744073709551616):=
  λx b c hb h0 h1 h2=>⟨tZ f ts q b c x ok (hf.below (az u hb)) h0 (λc' aL=>Qb),XN (n:=64) X (Zy (Ao ok h1 X) ok.small)⟩
 have B:Qn (∀x m,m<18446744073709551616->_):=λx m hm=>kX s m hs hm x;have Cw:Qn _:=Q8 u hl;have av:=hl.1;have ax:=hf.1;have G:=Zh u;rw[bZ]at vB S ⊢;generalize lF ts q.src.xs l s=SP,BZ ts q.src.xs l s=SA at*;obtain⟨SN,ag⟩:∃SN:Int->Nat,∀c,2 ^ aY ts q.src.xs c=SN c:=⟨_,λ_=>rfl⟩;simp only[ag]at A vB;obtain⟨Iy,Rx⟩:=aS A.o vB.o;generalize gz ts q=CS at*;clear ag A vB z bZ aa lu W u hf hl ok hs;by_cases z0:N l=0
 .have p:Qn (SP=F):=Qb
  have zb:((N l:Int)==0)=true:=by rw[z0];rfl
  clear v Iy Rx B z0;go_enter func159,ntmps159;go_wp2;go_ret;exact⟨QY p.o.symm,G.o⟩
 have zb:((N l:Int)==0)=false:=by rw[XW];omega
 by_cases z1:N CS<N l
 .have p:Qn (SP=F):=Qb
  have aA:(N CS:Int)<(N l:Int):=X;clear v Iy Rx B z0;go_enter func159,ntmps159;go_wp2;go_ret;exact⟨QY p.o.symm,G.o⟩
 have K:=Zh (by  rw[v.o,Zi X,Zi X];rfl:SP=(List.range (N l)).all SA)
 clear v z0;go_enter func159,ntmps159;go_wp2;clear S;go_loopw [22] (λiv wr=>∃k:Nat,k<=N l/\iv=I J k/\Qn (∀j,j<k->SA j=T)/\Bw w1 wr) (λiv _=>N l-(intOf iv).toNat)
 case atStart=>exact⟨0,ZB _,rfl,λj hj=>absurd hj X,Q9 _ _⟩
 case round=>
  obtain⟨k,hk,rfl,HJ,d⟩:=hrel;by_cases ak:k<N l
  .obtain⟨lb,lo,rfl,ah⟩:=Q3 Cw.o ak;have aB:=cB d (ah k ak);have r:=Zh (Iy.o k);have a:Qn (SA k=F->SP=F):=λe=>by rw[K.o,List.all_eq_false];grind
   have D:Qn (SA k=T->∀j,j<k+1->SA j=T):=λh j hj=>by
    rcases XV j k with h'|h'
    .exact HJ.o j h'
    grind
   have g:=vP (O (aD lb lo)) lc (l.take k) (E l k 0) wr (Q8 d (IntsAt.take Cw.o k));rw[XT,Nat.min_eq_left X]at g;have L:=Zh (az G.o d);clear ah HJ Iy;generalize l.take k=LT,E l k 0=c at*;by_cases h1:c<0
   .have p:=Zh (a.o (by rw[r.o,Zr X];rfl));clear r a D g;go_wp2;go_ret;exact⟨QY p.o.symm,L.o⟩
   have p7:=cB d qG;by_cases h2:(N CS:Int)<=c
   .have p:=Zh (a.o (by rw[r.o,Zr (show ¬c<(N CS:Int) by omega),Bool.and_false];rfl));clear r a D g;go_wp2;go_ret;exact⟨QY p.o.symm,L.o⟩
   clear p7;obtain⟨q0,q1,q2,q3,q4,q5,q6,q7⟩:=kS d iZ jJ kT jY jZ kU kV qG;obtain⟨q8,q9,aH,aI,aJ⟩:=jW d qE qF jB lK jC;by_cases h3:c∈LT
   .have p:=Zh (a.o (by rw[r.o,Zi h3];simp));rw[Zi h3]at g;clear r a D h3;go_wp2_with fail;refine XX g ?_;clear g;rintro e w2 ⟨rfl,rfl⟩;go_wp2;go_ret;exact⟨QY p.o.symm,L.o⟩
   rw[Zr h3]at g r;obtain⟨wa,MC⟩:=eX (wr.alloc (.cells #[I J c] 3));have y:Bw wr wa:=by rw[<-MC];exact cZ _ _
   obtain⟨Lh,ai⟩:=Rx.o wa wr.heap.size c (az d y) (by rw[<-MC];simp) X X;obtain⟨aj,aK⟩:=aS (az d y) y;generalize SN c=m at*;have P:Qn (∀x,_):=λx=>B.o x m ai;have Q:decide (0<=c)=true:=Zi X;have R:decide (c<(N CS:Int))=true:=Zi X;rw[Q,R]at r;generalize aT s m=CB at*;clear Q R y ai h3
   cases CB with
   |true =>
    have HT:=Zh (D.o (by rw[r.o];rfl));clear r a D;go_wp2_with fail;refine XX g ?_;clear g;rintro e w2 ⟨rfl,rfl⟩;go_wp2_with fail;refine XX Lh ?_;clear Lh MC;rintro e w3 ⟨rfl,t⟩;have C:=Zh (az aj.o t);clear t d;go_wp2_with fail;refine XX (P.o _) ?_;rintro e w4 ⟨rfl,rfl⟩;go_wp2;go_roundw
    case rel=>exact⟨k+1,X,Qe,HT.o,C.o⟩
    case measure=>exact XK
   |false =>
    have p:=Zh (a.o (by rw[r.o];rfl));clear r a D;go_wp2_with fail;refine XX g ?_;clear g;rintro e w2 ⟨rfl,rfl⟩;go_wp2_with fail;refine XX Lh ?_;clear Lh MC;rintro e w3 ⟨rfl,t⟩;have C:=Zh (az G.o (az aj.o t));clear t d;go_wp2_with fail;refine XX (P.o _) ?_;rintro e w4 ⟨rfl,rfl⟩;go_wp2;go_ret;exact⟨QY p.o.symm,C.o⟩
  .have p:=Zh (by rw[K.o,Q7];exact λi hi=>HJ.o i (Qk (List.mem_range.1 hi)):SP=T)
   have L:=Zh (az G.o d);clear HJ Iy Rx d;go_wp2;go_ret;exact⟨QY p.o.symm,L.o⟩
def Ca(ts:Qy af)(q:ae)(n:ai)(l r:bW):Bool:=
 (iF ts q n l.sources r.sources).2.2&&kC ts q n l.sources r.sources&&aO l.order [(iF ts q n l.sources r.sources).1]&&aO r.order [(iF ts q n l.sources r.sources).2.1]
theorem Dq(f:ay)(ts:Qy af)(q:ae)(n:ai)(l r:aC)(w:U)(ok:Ok ts q)(hf:f.At ts q w)(hn:n.cl.At w)(hl:l.Ok w)(hr:r.Ok w) :
  Cb 158 #[Qu (f.cells ts q),Qu n.cells,Qu l.cells,Qu r.cells] w (Qr (Ca ts q n l.d r.d)):=by
 obtain⟨v0,v1,v2,v3,v4,v5,v6,v7,v8,v9,bq,bu,bz,bZ,-⟩:=XY f ts q;have m:n.cells=#[I J n.kind,I J n.l,I J n.r,I J n.source,n.cl.val,I J n.key,n.co.val]:=rfl;have p:l.cells=#[I J l.kind,I Qq (l.sources:Int),I Qq (l.clauses:Int),l.order.val,I Qq (l.size:Int),I Qq (l.cost:Int)]:=rfl;have t:r.cells=#[I J r.kind,I Qq (r.sources:Int),I Qq (r.clauses:Int),r.order.val,I Qq (r.size:Int),I Qq (r.cost:Int)]:=rfl;obtain⟨w1,av,ax,Q⟩:=bC w ((f.cells ts q)) 82;obtain⟨w2,aA,aB,R⟩:=bC w1 n.cells 138;obtain⟨w3,aF,aG,S⟩:=bC w2 l.cells 102;obtain⟨w4,aH,aI,aJ⟩:=bC w3 r.cells 102;have A:=aI;have B:=az aG A;have C:=az aB B;have g:=az ax C;have lu:=Q.of (C.block _ Q.lt);have tT:=R.of (B.block _ R.lt);obtain⟨Ay,Ar,Au,MS,Av,MU,RG⟩:=tT.k7;have ag:=S.of (A.block _ S.lt);obtain⟨aK,VJ,aL,aM,aN,aP⟩:=ag.k6;have aj:=aJ;obtain⟨aQ,VK,aR,aT,aU,aV⟩:=aj.k6;obtain⟨iZ,jJ,kT,jY,jZ,kU,kV,qG,qE,qF,jB,lK,jC⟩:=lu.k13 (by rw[bZ];rfl);have u:=mY f ts q n l r w4 ok (hf.below g) (Q8 g hn) hl.sources hr.sources;have D:Qn (∀x,Bw w4 x->_):=λx z=>vT f ts q n l r x ok (hf.below (az g z)) (Q8 (az g z) hn) hl.sources hr.sources;have Sq:Qn (∀x b c,Bw w4 x->Qp x (aD b 0)=O (I J c)->Cb 161 #[Z l.order.ad (N l.order.xs) l.order.cap,Z (O (aD b 0)) 1 1] x (Qr (aO l.order.xs [c]))):=
  λx b c z h0=>iY l.order.ad (O (aD b 0)) l.order.cap 1 l.order.xs [c] x (Q8 (az g z) hl.order) ⟨Qa,λi hi=>⟨b,0,rfl,by
   grind⟩⟩ hl.cap
 have Eg:Qn (∀x b c,Bw w4 x->Qp x (aD b 0)=O (I J c)->Cb 161 #[Z r.order.ad (N r.order.xs) r.order.cap,Z (O (aD b 0)) 1 1] x (Qr (aO r.order.xs [c]))):=
  λx b c z h0=>iY r.order.ad (O (aD b 0)) r.order.cap 1 r.order.xs [c] x (Q8 (az g z) hr.order) ⟨Qa,λi hi=>⟨b,0,rfl,by
   grind⟩⟩ hr.cap
 have v:Qn (Ca ts q n l.d r.d=((iF ts q n l.sources r.sources).2.2&&kC ts q n l.sources r.sources&&aO l.order.xs [(iF ts q n l.sources r.sources).1]&&aO r.order.xs [(iF ts q n l.sources r.sources).2.1])):=rfl;have HC:=Zh g;rw[bZ,m,p,t]at u D;rw[bZ]at av;rw[m]at aA;rw[p]at aF;rw[t]at aH;rw[bZ,m,p,t];generalize Ca ts q n l.d r.d=MP,kC ts q n l.sources r.sources=JP,iF ts q n l.sources r.sources=KP at*;obtain⟨ka,kb,aW⟩:=KP;obtain⟨nk,nl,nr,ns,⟨na,nc,nx⟩,ny,⟨oa,oc,ox⟩⟩:=n;obtain⟨lk,ls,bA,⟨la,bB,lx⟩,lz,bD⟩:=l;obtain⟨rk,rs,bE,⟨ra,bF,rx⟩,rz,bG⟩:=r;unfold ah.val at*;simp only at*
 cases aW with
 |false =>
  have y:=Zh (by  rw[v.o];rfl:MP=F)
  go_enter func158,ntmps158;go_wp2_with fail;refine XX u ?_;rintro e w5 ⟨rfl,a⟩;have ko:=Zh (az HC.o a);go_wp2;go_ret;exact⟨QY y.o.symm,ko.o⟩
 |true =>
  go_enter func158,ntmps158;go_wp2_with fail;refine XX u ?_;rintro e w5 ⟨rfl,a⟩;obtain⟨bH,bI,bJ,bK,bL,bM,bN,bO⟩:=kS a iZ jJ kT jY jZ kU kV qG;obtain⟨bP,bQ,Wo,Wu,Wv,bR,bS,bT⟩:=kS a qE qF jB lK jC Ay Ar Au;obtain⟨bU,bV,bW,bX,bY,cu,cz,cK⟩:=kS a MS Av MU RG aK aQ VJ VK;obtain⟨cO,df,aX,aY,dh,di,dm,dn⟩:=kS a aL aR aM aT aN aU aP aV;have G:=D.o w5 a;obtain⟨ko,W⟩:=aS a (az HC.o a)
  cases JP with
  |false =>
   have y:=Zh (by  rw[v.o];rfl:MP=F)
   go_wp2_with fail;refine XX G ?_;rintro e w6 ⟨rfl,j⟩;have zg:=Zh (az W.o j);go_wp2;go_ret;exact⟨QY y.o.symm,zg.o⟩
  |true =>
   have U8:=Zh (by  rw[v.o];rfl:MP=(aO lx [ka]&&aO rx [kb]))
   go_wp2_with fail;refine XX G ?_;rintro e w6 ⟨rfl,j⟩;obtain⟨e3,e4⟩:=jf j aX aY;obtain⟨zg,aZ⟩:=aS (az ko.o j) (az W.o j);obtain⟨wa,MC⟩:=eX (w6.alloc (.cells #[I J ka] 3));have k:Bw w6 wa:=by rw[<-MC];exact cZ _ _
   have K:=Sq.o wa w6.heap.size ka (az zg.o k) (by rw[<-MC];simp);obtain⟨bf,Ef⟩:=aS (az zg.o k) (az aZ.o k);have ak:=cB k e4;generalize aO lx [ka]=S1 at*
   cases S1 with
   |false =>
    have y:=Zh (by  rw[U8.o];rfl:MP=F)
    go_wp2_with fail;refine XX K ?_;rintro e w7 ⟨rfl,qy⟩;have VL:=Zh (az Ef.o qy);go_wp2;go_ret;exact⟨QY y.o.symm,VL.o⟩
   |true =>
    have y:=Zh (by  rw[U8.o];rfl:MP=aO rx [kb])
    go_wp2_with fail;refine XX K ?_;rintro e w7 ⟨rfl,qy⟩;have bn:=cB qy ak;obtain⟨VL,bg⟩:=aS (az bf.o qy) (az Ef.o qy);obtain⟨wb,aa⟩:=eX (w7.alloc (.cells #[I J kb] 3));have L:Bw w7 wb:=by rw[<-aa];exact cZ _ _
    have P:=Eg.o wb w7.heap.size kb (az VL.o L) (by rw[<-aa];simp);rw[<-y.o]at P;have pY:=Zh (az bg.o L);go_wp2_with fail;refine XX P ?_;rintro e w8 ⟨rfl,JN⟩;have au:=Zh (az pY.o JN);go_wp2;go_ret;exact⟨rfl,au.o⟩
def qK{P Q C:Prop}(v:Value)(c:C)(k:Q)(h:IsV v->C->Q->P:=by
  intro b c d;go_big_quiet_want;refine aeg b ⟨λx a=>?_,?_⟩
  .have e:=Ze a (c x a);go_simp
  .simp only[pU];go_big_quiet_on;exact d):P:=h trivial c k
def Y6(f:ay)(ts:Qy af)(q:ae)(n:ai)(ao:PN)(cap:Nat)(ps:Qy aC)(w:U)(ok:Ok ts q)(hf:f.At ts q w)(hcl:n.cl.At w)(hco:n.co.At w)(hcap:N n.co.xs<=n.co.cap)(hp:PartsAt w ao ps)(hk1:1<=n.kind)(hk10:n.kind<=10)(hl:N ps=arity n.kind) :
  Cb 107 #[Qu (f.cells ts q),Qu n.cells,Z ao (N ps) cap] w (Qr (iK ts q n (E ps 0 bG).d (E ps 1 bG).d)):=by
 obtain⟨v0,v1,v2,v3,v4,v5,v6,v7,v8,v9,aI,aJ,aK,bZ,aj,ak,au,av,ax,aA,aB,-⟩:=XY f ts q;obtain⟨w1,aa,ag,K⟩:=bC w (f.cells ts q) 82;obtain⟨v,aF,P,Q⟩:=bC w1 n.cells 138;have k:=az ag P;have HC:=Zh k;have HG:=Zh λ(x:U) (a:Bw v x)=>Jm (K.of ((az P a).block _ K.lt)) (Jm (Q.of (a.block _ Q.lt)) (hp.below (az k a)));have j:=λh=>(hp.below k).2 0 h |>.2;have t:=λh=>(hp.below k).2 1 h |>.2;have aG:=hp.1;obtain⟨b,S⟩:=eY (iK ts q n (E ps 0 bG).d (E ps 1 bG).d);rw[<-S];have B:=Zh λ(h:0<N ps) (x:U) (a:Bw v x)=>qW f ts q n.cl.ad n.cl.cap n.cl.xs (E ps 0 bG).sources x ok (hf.below (az k a)) (Q8 (az k a) hcl) (by have:=(j h).sources;unfold bQ at this;omega);have C:=Zh λ(h:0<N ps) (x:U) (a:Bw v x)=>Gm f ts q n.co.ad n.co.cap n.co.xs (E ps 0 bG).sources x ok (fK.below (az k a) hf.aL) (Q8 (az k a) hco) hcap (by have:=(j h).sources;unfold bQ at this;omega);have u:=Zh λ(h:1<N ps) (x:U) (a:Bw v x)=>vT f ts q n (E ps 0 bG) (E ps 1 bG) x ok (hf.below (az k a)) (Q8 (az k a) hcl) (j X).sources (t h).sources;have D:=Zh λ(h:1<N ps) (x:U) (a:Bw v x)=>mY f ts q n (E ps 0 bG) (E ps 1 bG) x ok (hf.below (az k a)) (Q8 (az k a) hcl) (j X).sources (t h).sources;have G:=Zh λ(h:1<N ps) (x:U) (a:Bw v x)=>Dq f ts q n (E ps 0 bG) (E ps 1 bG) x ok (hf.below (az k a)) (Q8 (az k a) hcl) ((j X).below a) ((t h).below a);have A:=Zh λ(x:U) (_:Bw v x)=>Iz f ts q (E ps 0 bG) x;have FZ:=Zh λ(h:0<N ps) (x:U) (a:Bw v x)=>iY (E ps 0 bG).order.ad q.keys.ad (E ps 0 bG).order.cap q.keys.cap (E ps 0 bG).order.xs q.keys.xs x (Q8 a (j h).order) (Q8 (az k a) hf.query.keys) (j h).cap;have l:=Zh S;obtain⟨L,hL⟩:=eX (E ps 0 bG);obtain⟨R,hR⟩:=eX (E ps 1 bG);rw[hL]at B C A FZ;rw[hL,hR]at u D G l;rw[bZ]at aa HG B C u D G A ⊢;clear ok hf hcl hco hcap hp k ag P K Q j t bZ S;obtain⟨nk,nl,nr,ns,⟨ca,cc,cl⟩,key,⟨da,dc,co⟩⟩:=n;obtain⟨lk,ls,aM,⟨la,aN,lx⟩,lz,aP⟩:=L;obtain⟨rk,rs,aQ,⟨ra,aR,rx⟩,rz,aT⟩:=R;obtain⟨G1,G2,W⟩:=HG.o v (Q9 _ _);obtain⟨iZ,jJ,kT,jY,jZ,kU,kV,qG,qE,qF,jB,lK,jC⟩:=G1.k13;obtain⟨Ay,Ar,Au,MS,Av,MU,RG⟩:=G2.k7;simp only[aC.cells,ai.cells,ah.val]at*;subst aj au av aB;clear ak ax aA;go_enter func107,ntmps107;go_upto_region 2 with fail;clear aa aF;rcases (by omega:nk=1∨nk=2∨nk=3∨nk=4∨nk=5∨nk=6∨nk=7∨nk=8∨nk=9∨nk=10) with rfl|rfl|rfl|rfl|rfl|rfl|rfl|rfl|rfl|rfl
 all_goals
  clear hk1 hk10;try
   have r:0<N ps:=by rw[hl];decide
   obtain⟨⟨pb,po,rfl,c0,c1,c2,c3,c4,c5⟩,-⟩:=W.2 0 r;simp only[hL,Nat.zero_mul,XH,ah.val]at c0 c1 c2 c3 c4 c5;try
    have p:1<N ps:=by rw[hl];decide
    obtain⟨⟨_,_,e,d0,d1,d2,d3,d4,d5⟩,-⟩:=W.2 1 p;cases e;have aH:(1:Int)<(N ps:Int):=X;simp only[hR,Nat.one_mul,ah.val]at d0 d1 d2 d3 d4 d5
  clear hl W G1 G2
 case' _=>
  by_cases z:0<=ns
  case' pos=>by_cases y:ns<(N q.src.xs:Int)
  all_goals
   go_wp2;go_ret;exact⟨QY (l.o.trans (by simp[iK];omega)).symm,HC.o⟩
 case' _=>
  have i:=Zh (B.o r);have m:Qn (b=(decide (0<N cl)&&iE ts q cl ls)):=l.o;generalize iE ts q cl ls=RB at*;go_upto_region 5 with fail;refine Zd ?_;by_cases z:0<N cl
  case' pos=>
   replace m:Qn (b=RB):=m.o.trans (by simp[z])
   refine ait ?_;refine EJ ?_;refine qK (Qr RB) i.o ?_
  case' neg=>
   replace m:Qn (b=F):=m.o.trans (by simp[z])
   obtain rfl:cl=[]:=Zk X;simp only[Z0]at*;refine qS (.pointer (O (aD w1.heap.size 4))) ?_;refine qC (Z ca 0 cc) Av ?_;refine qS (I J 0) ?_;refine qS (Qr F) ?_;go_big_quiet_want;refine⟨Qr F,λx a=>?_,?_⟩
   .go_simp
   simp only[pU];go_big_quiet_on;iterate 8 (go_big_quiet_skip;try simp only[pU])
  all_goals
   clear z;refine EJ ?_
 rotate_left 2
 case' _=>
  have i:=Zh (u.o p);have m:Qn (b=kC ts q ⟨3,nl,nr,ns,⟨ca,cc,cl⟩,key,⟨da,dc,co⟩⟩ ls rs):=l.o;generalize kC ts q ⟨3,nl,nr,ns,⟨ca,cc,cl⟩,key,⟨da,dc,co⟩⟩ ls rs=RB at*;go_upto_region 7 with fail;refine Zd ?_;refine qA8 ?_;refine qK (Qr RB) i.o ?_;refine Le ?_
 rotate_left 1
 case' _=>
  have i:=Zh (D.o p);have m:Qn (b=((iF ts q _ _ _).2.2&&kC ts q _ _ _)):=l.o;clear l;simp only[aC.d]at m;generalize kC ts q _ _ _=RB,iF ts q _ _ _=KP at*;obtain⟨ka,kb,kc⟩:=KP;go_upto_region 9 with fail;refine Zd ?_;refine qA8 ?_;refine qK (.tuple #[I J ka,I J kb,Qr kc]) i.o ?_;refine qA5 ?_;refine EJ ?_;refine XZ ?_;intro wE Kz;clear iZ jJ kT jY jZ kU kV qG qE qF jB lK jC Ay Ar Au MS Av MU RG c0 c1 c2 c3 c4 c5 d0 d1 d2 d3 d4 d5 i;obtain⟨G1,G2,W⟩:=HG.o wE Kz;obtain⟨iZ,jJ,kT,jY,jZ,kU,kV,qG,qE,qF,jB,lK,jC⟩:=G1.k13;obtain⟨Ay,Ar,Au,MS,Av,MU,RG⟩:=G2.k7;obtain⟨⟨_,_,e,c0,c1,c2,c3,c4,c5⟩,-⟩:=W.2 0 r;cases e;obtain⟨⟨_,_,e,d0,d1,d2,d3,d4,d5⟩,-⟩:=W.2 1 p;cases e;simp only[hL,hR,Nat.zero_mul,XH,Nat.one_mul,ah.val]at c0 c1 c2 c3 c4 c5 d0 d1 d2 d3 d4 d5;have i:=Zh λ(x:U) (a:Bw wE x)=>u.o p x (az Kz a)
  replace HC:=Zh (az HC.o Kz)
  clear Kz G1 G2 W;go_upto_region 10 with fail;refine Zd ?_;cases kc
  case' true=>
   refine ait ?_;refine qK (Qr RB) i.o ?_
  case' false=>
   refine qS (Qr F) ?_;go_big_quiet_want;refine⟨Qr F,λx a=>?_,?_⟩
   .go_simp
   simp only[pU];go_big_quiet_on;iterate 9 (go_big_quiet_skip;try simp only[pU])
  all_goals refine EJ ?_
 rotate_left 2
 case' _=>
  obtain⟨i,m⟩:=aS (G.o p) l.o;change Qn (b=Ca ts q _ _ _) at m;generalize Ca ts q _ _ _=RB at*;go_upto_region 12 with fail;refine Zd ?_;refine qA8 ?_;refine qK (Qr RB) i.o ?_;refine Le ?_
 rotate_left 1
 case' _=>
  have i:=Zh (C.o r);have m:Qn (b=lF ts q.src.xs co ls):=l.o;generalize lF ts q.src.xs co ls=RB at*;go_upto_region 14 with fail;refine Zd ?_;refine qA6 ?_;refine Le ?_;refine qK (Qr RB) i.o ?_;refine Le ?_
 rotate_left 1
 case' _=>
  have i:=Zh A.o;have m:Qn (b=(q.group&&jG q _)):=l.o;clear l A FZ;generalize jG q _=RB,q.group=g at*;go_upto_region 16 with fail;refine Zd ?_;cases g
  case' true=>
   refine qA8 ?_;refine qK (Qr RB) i.o ?_
  case' false=>
   refine qA4 ?_;iterate 5 (go_big_quiet_skip;try simp only[pU])
  all_goals refine EJ ?_
 rotate_left 2
 case' _=>
  go_upto_region 18 with fail;refine Zd ?_;obtain⟨i,HY⟩:=aS A.o (FZ.o r);have m:Qn (b=(q.group&&jG q _&&aO lx q.keys.xs)):=l.o;clear l A FZ;generalize aO lx q.keys.xs=SB,jG q _=RB,q.group=g at*;cases g
  case' false=>
   refine qA4 ?_;iterate 5 (go_big_quiet_skip;try simp only[pU])
  case' true=>
   refine qA8 ?_;refine qK (Qr RB) i.o ?_;cases RB
   rotate_left 1
   refine EJ ?_;refine qA6 ?_;refine Le ?_;refine qK (Qr SB) HY.o ?_;refine EJ ?_
   rotate_left 1
  all_goals
   try
    refine qS (Qr F) ?_;go_big_quiet_want;refine⟨Qr F,λx a=>?_,?_⟩
    .go_simp
    simp only[pU];go_big_quiet_on;iterate 8 (go_big_quiet_skip;try simp only[pU])
    refine EJ ?_
 rotate_left 3
 case' _=>
  have i:=Zh A.o;have m:Qn (b=(!q.group&&jG q _)):=l.o;clear l A FZ;generalize jG q _=RB,q.group=g at*;go_upto_region 20 with fail;refine Zd ?_;cases g
  case' false=>
   refine qA8 ?_;refine Le ?_;refine qK (Qr RB) i.o ?_
  case' true=>
   refine qA5 ?_;iterate 5 (go_big_quiet_skip;try simp only[pU])
  all_goals refine EJ ?_
 rotate_left 2
 case' _=>
  by_cases z:0<N q.ord.xs
  all_goals
   go_wp2;go_ret;exact⟨QY (l.o.trans (by simp[iK,z])).symm,HC.o⟩
 all_goals
  refine XZ ?_;intro wE Kz;have nH:=Zh (az HC.o Kz);clear Kz;go_wp2;go_ret;exact⟨QY m.o.symm,nH.o⟩
