import Derived.Test.YtfnnchibngigdaaGreatDoorS07
set_option linter.all false
set_option maxRecDepth 100000
set_option maxHeartbeats 0
namespace Go.Proofs.Zz
open Go.RowKit Go.Shelf Go.Proofs.Tryz
open List renaming length->N,getD->E
open Go.Value renaming slice->Z,int->I,bool->Qo,agg->Qr
open Option renaming some->O
open Go.IntKind renaming i64->J,u64->Qn
open Bool renaming false->F,true->T
open Go renaming World->U
open Go.RowKit renaming Hid->Qk
open Go.World renaming cell?->Qm
theorem Km(ts:Qu af)(src:KJ)(cs:Qu aF)(a b:Nat):uP ts src cs a b =
  if (dN cs).2.2=F then (0,0,F)
  else if (aZ a (2 ^ aj ts src (dN cs).1)&&aZ b (2 ^ aj ts src (dN cs).2.1))=T then ((dN cs).1,(dN cs).2.1,T)
  else if (aZ a (2 ^ aj ts src (dN cs).2.1)&&aZ b (2 ^ aj ts src (dN cs).1))=T then ((dN cs).2.1,(dN cs).1,T)
  else (0,0,F):=by unfold uP dN;grind
theorem Hl{ts:Qu af}{q:ae}(ok:Ok ts q){k:Nat}(hk:k<N q.wh)(h:(dN (E q.wh k lz).cs).2.2=T):kS ts q [(dN (E q.wh k lz).cs).1]/\kS ts q [(dN (E q.wh k lz).cs).2.1]:=by
 have f:=ok.some k hk;have g:=ok.aO k hk;generalize (E q.wh k lz).cs=cs at*;unfold dN at h ⊢;by_cases e:N cs > 1∨(E cs 0 cz).op≠0∨(E cs 0 cz).not=T∨(E cs 0 cz).const=T
 .rw[Q8 e]at h;cases h
 rw[Zf e];have d:∀x,x∈au (E cs 0 cz)->x∈av cs:=λx a=>Zt.2 ⟨_,dB f,a⟩;have i:(E cs 0 cz).op=0:=by omega
 have j:(E cs 0 cz).const=false:=by grind
 have b:au (E cs 0 cz)=[(E cs 0 cz).left,(E cs 0 cz).right]:=by unfold au;grind
 rw[b]at d;refine⟨λc a=>?_,λc a=>?_⟩
 .grind
 .rw[Xb]at a;rw[a];exact g _ (d _ Qb)
theorem rR(ca:JW)(cc:Nat)(cs:Qu aF)(w:U)(hx:bY w ca cs)(h0:0<N cs) :
  Cb 103 #[Qr #[Z ca (N cs) cc]] w (.tuple #[I J (dN cs).1,I J (dN cs).2.1,Qo (dN cs).2.2]):=by
 obtain⟨B,co,rfl,p,q,r,t,u⟩:=hx.2 0 h0;have y:=hx.1;rw[Xr,Z4]at p q r t u;have d:Qk (dN cs=if (N cs) > 1∨(E cs 0 cz).op≠0∨(E cs 0 cz).not=T∨(E cs 0 cz).const=T then (0,0,F) else ((E cs 0 cz).left,(E cs 0 cz).right,T)):=rfl;generalize dN cs=EC,E cs 0 cz=c at*;obtain⟨i,k,left,a,right⟩:=c;simp only at*;obtain⟨C,D,j,b⟩:=aY w #[Z (O (aD B co)) (N cs) cc] 80;obtain⟨Q,G,m,n⟩:=aY C #[Qo i,I J k,I J left,Qo a,I J right] 82;have e:=m;have l:=ah j e;have z:=b.of (e.block _ b.lt);have L:=z.at 0;have A:=n;obtain⟨R,S,W,CZ,vg⟩:=A.k5;have P:=b.at 0;obtain⟨d0,d1,d2,d3,d4⟩:=gM j p q r t u;have f:=Zh l;by_cases K:N cs > 1
 .obtain rfl:EC=(0,0,F):=by rw[d.o,Q8 (.inl K)]
  go_enter func103,ntmps103;go_wp2;go_ret3;exact⟨rfl,f.o⟩
 by_cases v:k≠0
 .obtain rfl:EC=(0,0,F):=by rw[d.o,Q8 (.inr (.inl v))]
  have g:(k != 0)=true:=by rw[bne_iff_ne];exact v
  go_enter func103,ntmps103;go_wp2;go_ret3;exact⟨rfl,f.o⟩
 have g:k=0:=X;subst g
 cases i with
 |true =>
  obtain rfl:EC=(0,0,F):=by rw[d.o,Q8 (.inr (.inr (.inl rfl)))]
  go_enter func103,ntmps103;go_wp2;go_ret3;exact⟨rfl,f.o⟩
 |false =>
  cases a with
  |true =>
   obtain rfl:EC=(0,0,F):=by rw[d.o,Q8 (.inr (.inr (.inr rfl)))]
   go_enter func103,ntmps103;go_wp2;go_ret3;exact⟨rfl,f.o⟩
  |false =>
   obtain rfl:EC=(left,right,T):=by rw[d.o,Zf];grind
   go_enter func103,ntmps103;go_wp2;go_quiet (fail);go_wp2;go_ret3;exact⟨rfl,Zc f.o _⟩
theorem oH(f:bq)(ts:Qu af)(q:ae)(b:Nat)(c:Int)(w:U)(ok:Ok ts q)(hf:dW w f.ca (dR ts q))(h0:Qm w (aD b 0)=O (I J c))(hc:kS ts q [c]) :
  Cb 75 #[Qr (f.cells ts q),Z (O (aD b 0)) 1 1] w (I Qn ((2 ^ aj ts q.src.xs c:Nat):Int)):=by
 have h:=oz f ts q (O (aD b 0)) 1 [c] w ok hf ⟨Qb,λi a=>⟨b,0,rfl,by
  grind⟩⟩ hc
 have e:aL (gP ts q [c])=2 ^ aj ts q.src.xs c:=mI _;rw[e]at h;exact h
def ng(f:bq)(ts:Qu af)(q:ae)(n:ag)(l r:aC)(w:U)(ok:Ok ts q)(hf:f.At ts q w)(hn:n.cl.At w)(hl:l.sources<=aH)(hr:r.sources<=aH) :
  Cb 80 #[Qr (f.cells ts q),Qr n.cells,Qr l.cells,Qr r.cells] w (.tuple #[I J (jh ts q n l.sources r.sources).1,I J (jh ts q n l.sources r.sources).2.1,Qo (jh ts q n l.sources r.sources).2.2]):=by
 obtain⟨v0,v1,v2,v3,v4,v5,v6,v7,v8,v9,aX,bf,bg,jW,-,aQ,-⟩:=dX f ts q;obtain⟨w1,au,aJ,av⟩:=aY w ((f.cells ts q)) 60;obtain⟨w2,aR,aK,ax⟩:=aY w1 n.cells 52;obtain⟨w3,aS,aL,ay⟩:=aY w2 l.cells 65;obtain⟨w4,aT,aM,aN⟩:=aY w3 r.cells 65;have P:=aM;have Q:=ah aL P;have R:=ah aK Q;have u:=ah aJ R;have iU:=av.of (R.block _ av.lt);have oC:=ax.of (Q.block _ ax.lt);have vg:=oC.at 4;have Db:=oC.at 5;have Mk:=ay.of (P.block _ ay.lt);have J2:=Mk.at 1;have Sm:=aN;have J3:=Sm.at 1;obtain⟨dZ,fq,gm,fD,fE,gp,gq,mi,mg,mh,fP,jc,fQ⟩:=iU.k13 (by rw[jW];rfl);have aF:l.sources<18446744073709551616:=by unfold aH at hl;omega
 have aG:r.sources<18446744073709551616:=by unfold aH at hr;omega
 have Uu:Qk _:=qG n.cl.ad n.cl.cap n.cl.xs n.key w4 (Q7 u hn);have B:Qk (jh ts q n l.sources r.sources=if n.key∈n.cl.xs/\0<=n.key/\n.key<N q.wh then uP ts q.src.xs (E q.wh n.key.toNat lz).cs l.sources r.sources else (0,0,F)):=rfl;have z:Qk (∀x b c,Bw w4 x->Qm x (aD b 0)=O (I J c)->kS ts q [c]->Cb 75 #[Qr (f.cells ts q),Z (O (aD b 0)) 1 1] x (I Qn ((2 ^ aj ts q.src.xs c:Nat):Int))):=
  λx b c hb D hc=>oH f ts q b c x ok (hf.aO.below (ah u hb)) D hc
 have S:Qk (∀c,kS ts q [c]->2 ^ aj ts q.src.xs c<18446744073709551616):=λc hc=>by obtain⟨D,h1⟩:=hc c Qb;exact Xg (n:=64) X (ZC (uX ok D h1) ok.small)
 have W:Qk (∀x m,m<18446744073709551616->_):=λx m hm=>lM l.sources m aF hm x;have yA:Qk (∀x m,m<18446744073709551616->_):=λx m hm=>lM r.sources m aG hm x;have zM:Qk (∀k,k<N q.wh->(∃b A,q.bF=O (aD b A)/\Qm w4 (aD b (A+k))=O (Z (E q.wh k lz).ad (E q.wh k lz).cs.length (E q.wh k lz).cap))/\bY w4 (E q.wh k lz).ad (E q.wh k lz).cs/\0<(E q.wh k lz).cs.length):=λk C=>by have hW:=hf.query.wh.below u;obtain⟨b,A,e,hc⟩:=hW.2.1 k C;exact⟨⟨b,A,e,hc⟩,hW.2.2 k C,ok.some k C⟩
 have Uv:Qk (∀k,k<N q.wh->_):=λk C=>@Hl ts q ok k C;have aW:=hf.query.wh.1;have HC:=Zh u;rw[jW]at z au ⊢;subst aQ;obtain⟨nk,nl,nr,ns,⟨na,nc,nx⟩,ny,no⟩:=n;unfold ai.val at*;simp only at*;generalize aV:jh ts q _ l.sources r.sources=KV at*;clear aV;generalize ag.cells _=NC,l.cells=LC,r.cells=RC,l.sources=a,r.sources=b at*;clear u R Q P aJ aK aL aM av ax ay aN iU oC Mk Sm hf ok hn hl hr aF aG jW;have t:=Uu.o;clear Uu;by_cases y:ny∈nx
 .rw[Zg y]at t;by_cases D:ny<0
  .obtain rfl:KV=(0,0,F):=by rw[B.o,Zf (λh=>absurd h.2.1 X)]
   clear B z W yA zM Uv S;go_enter func80,ntmps80;go_wp2_with fail;refine Xx t ?_;clear t;rintro e w5 ⟨rfl,rfl⟩;go_wp2;go_ret3;exact⟨rfl,HC.o⟩
  by_cases h1:(N q.wh:Int)<=ny
  .obtain rfl:KV=(0,0,F):=by rw[B.o,Zf (λh=>absurd h.2.2 X)]
   clear B z W yA zM Uv S;go_enter func80,ntmps80;go_wp2_with fail;refine Xx t ?_;clear t;rintro e w5 ⟨rfl,rfl⟩;go_wp2;go_ret3;exact⟨rfl,HC.o⟩
  obtain⟨k,rfl⟩:=Xj (show 0<=ny by omega);have C:k<N q.wh:=X;have p:=Zh B.o;rw[Q8 ⟨y,X,X⟩,Xk,Km]at p;obtain⟨⟨qb,qo,aP,aU⟩,v,G⟩:=zM.o k C;have PK:=Zh (Uv.o k C);rw[aP]at fq z au ⊢;have XZ:=rR (E q.wh k lz).ad (E q.wh k lz).cap (E q.wh k lz).cs w4 v G;clear B zM Uv v G aP y;generalize (E q.wh k lz).cap=Pn,(E q.wh k lz).ad=cad,(E q.wh k lz).cs=cs at*;generalize dN cs=EC at*;obtain⟨EL,ER,EB⟩:=EC;simp only at*;generalize YZ:N q.wh=nw at*;clear YZ
  cases EB with
  |false =>
   obtain rfl:KV=(0,0,F):=by rw[p.o,Q8 rfl]
   clear p z W yA PK S;go_enter func80,ntmps80;go_wp2_with fail;refine Xx t ?_;clear t;rintro e w5 ⟨rfl,rfl⟩;go_wp2_with fail;refine Xx XZ ?_;clear XZ;rintro e w6 ⟨rfl,i⟩;have ug:=Zh (ah HC.o i);clear i;go_wp2;go_ret3;exact⟨rfl,ug.o⟩
  |true =>
   obtain⟨az,aA⟩:=PK.o rfl;have aa:=S.o EL az;have ak:=S.o ER aA;have wZ:Qk (∀x b,_->_->_):=λx b hb D=>z.o x b EL hb D az;have SF:Qk (∀x b,_->_->_):=λx b hb D=>z.o x b ER hb D aA;rw[Zf Qb]at p;generalize 2 ^ aj ts q.src.xs EL=SL,2 ^ aj ts q.src.xs ER=SR at*;have Og:Qk (∀x,_):=λx=>W.o x SL aa;have XU:Qk (∀x,_):=λx=>W.o x SR ak;have IX:Qk (∀x,_):=λx=>yA.o x SL aa;have mo:Qk (∀x,_):=λx=>yA.o x SR ak;generalize aZ a SL=AL,aZ a SR=AR,aZ b SL=BL,aZ b SR=BR at*;clear PK S z W yA az aA aa ak;go_enter func80,ntmps80;go_wp2_with fail;refine Xx t ?_;clear t;rintro e w5 ⟨rfl,rfl⟩;go_wp2_with fail;refine Xx XZ ?_;clear XZ au aR aS aT;rintro e w6 ⟨rfl,i⟩;obtain⟨PM,PN,PQ,PR,PS,PT,PU,PW⟩:=oK i J2 J3 dZ fq gm fD fE gp;obtain⟨PX,PY,PZ,Ra,Kn⟩:=gM i gq mi mg mh fP;obtain⟨Ko,Kq⟩:=iA i jc fQ;obtain⟨ug,Uw⟩:=bV i (ah HC.o i);clear i aU vg Db J2 J3 dZ fq gm fD fE gp gq mi mg mh fP jc fQ;go_upto_region 6 with fail;go_cut [48] from 49 to 64 (λc wx=>c=Qo (AL&&BR)/\Bw w6 wx)
   case first=>
    cases AL with
    |true =>
     refine wH w6 λd=>?_;refine II 0 d ?_;refine wR 4 λK g=>?_;go_simp;refine oA g d λd=>?_;clear g K;refine wR 5 λK g=>?_;go_simp;refine Xx (wZ.o _ w6.heap.size (ah ug.o d) Qb) ?_;rintro e wy ⟨rfl,j⟩;refine oT g d j λd=>?_;clear g K;refine wR 6 λK g=>?_;go_simp;refine Xx (Og.o _) ?_;rintro e wz ⟨rfl,rfl⟩;refine g.o _ _ d λd=>?_;clear g K;refine wR 7 λK g=>?_;go_simp;refine g.o _ _ d λd=>?_;clear g K;refine II 8 d ?_;refine wR 12 λK g=>?_;go_simp;refine oA g d λd=>?_;clear g K;refine wR 13 λK g=>?_;go_simp;refine Xx (SF.o _ wz.heap.size (ah ug.o d) Qb) ?_;rintro e wu ⟨rfl,aB⟩;refine oT g d aB λd=>?_;clear g K;refine wR 14 λK g=>?_;go_simp;refine Xx (mo.o _) ?_;rintro e wv ⟨rfl,rfl⟩;refine g.o _ _ d λd=>?_;clear g K;refine wR 15 λK g=>?_;go_simp;refine g.o _ _ d λd=>?_;clear g K;refine wR 16 λK g=>?_;go_simp;refine g.o _ _ d λd=>?_;clear g K;refine wD ?_;try simp only[pU]
     go_wp2_with fail;go_meet;exact⟨rfl,d⟩
    |false =>
     refine wH w6 λd=>?_;refine II 0 d ?_;refine wR 4 λK g=>?_;go_simp;refine oA g d λd=>?_;clear g K;refine wR 5 λK g=>?_;go_simp;refine Xx (wZ.o _ w6.heap.size (ah ug.o d) Qb) ?_;rintro e wy ⟨rfl,j⟩;refine oT g d j λd=>?_;clear g K;refine wR 6 λK g=>?_;go_simp;refine Xx (Og.o _) ?_;rintro e wz ⟨rfl,rfl⟩;refine g.o _ _ d λd=>?_;clear g K;refine wR 7 λK g=>?_;go_simp;refine g.o _ _ d λd=>?_;clear g K;refine wV 8 d ?_;refine wV 9 d ?_;refine wV 10 d ?_;refine wV 11 d ?_;refine wV 12 d ?_;refine wV 13 d ?_;refine wV 14 d ?_;refine wR 15 λK g=>?_;go_simp;refine g.o _ _ d λd=>?_;clear g K;refine wR 16 λK g=>?_;go_simp;refine g.o _ _ d λd=>?_;clear g K;refine wD ?_;try simp only[pU]
     go_wp2_with fail;go_meet;exact⟨rfl,d⟩
   case rest=>
   obtain⟨rfl,L⟩:=hcut
   cases LH:(AL&&BR) with
   |true =>
    rw[LH,Q8 rfl]at p;obtain rfl:=p.o;have zL:=Zh (ah Uw.o L);clear L p;go_wp2;go_ret3;exact⟨rfl,zL.o⟩
   |false =>
   rw[LH,Zf Qb]at p;obtain⟨zL,Ux⟩:=bV (ah ug.o L) (ah Uw.o L);obtain⟨bn,bu,bz,bA,bB,bC,bD,bE⟩:=oK L PM PN PQ PR PS PT PU PW;obtain⟨bG,bH,bI,bJ,bK⟩:=gM L PX PY PZ Ra Kn;obtain⟨bL,bM⟩:=iA L Ko Kq;clear L LH ug Uw PM PN PQ PR PS PT PU PW PX PY PZ Ra Kn Ko Kq;go_upto_region 8 with fail;go_cut [67] from 68 to 83 (λc wy=>c=Qo (AR&&BL)/\Bw wc wy)
   case first=>
    cases AR with
    |true =>
     refine wH wc λd=>?_;refine II 0 d ?_;refine wR 4 λK g=>?_;go_simp;refine oA g d λd=>?_;clear g K;refine wR 5 λK g=>?_;go_simp;refine Xx (SF.o _ wc.heap.size (ah zL.o d) Qb) ?_;rintro e wy ⟨rfl,j⟩;refine oT g d j λd=>?_;clear g K;refine wR 6 λK g=>?_;go_simp;refine Xx (XU.o _) ?_;rintro e wz ⟨rfl,rfl⟩;refine g.o _ _ d λd=>?_;clear g K;refine wR 7 λK g=>?_;go_simp;refine g.o _ _ d λd=>?_;clear g K;refine II 8 d ?_;refine wR 12 λK g=>?_;go_simp;refine oA g d λd=>?_;clear g K;refine wR 13 λK g=>?_;go_simp;refine Xx (wZ.o _ wz.heap.size (ah zL.o d) Qb) ?_;rintro e wu ⟨rfl,aB⟩;refine oT g d aB λd=>?_;clear g K;refine wR 14 λK g=>?_;go_simp;refine Xx (IX.o _) ?_;rintro e wv ⟨rfl,rfl⟩;refine g.o _ _ d λd=>?_;clear g K;refine wR 15 λK g=>?_;go_simp;refine g.o _ _ d λd=>?_;clear g K;refine wR 16 λK g=>?_;go_simp;refine g.o _ _ d λd=>?_;clear g K;refine wD ?_;try simp only[pU]
     go_wp2_with fail;go_meet;exact⟨rfl,d⟩
    |false =>
     refine wH wc λd=>?_;refine II 0 d ?_;refine wR 4 λK g=>?_;go_simp;refine oA g d λd=>?_;clear g K;refine wR 5 λK g=>?_;go_simp;refine Xx (SF.o _ wc.heap.size (ah zL.o d) Qb) ?_;rintro e wy ⟨rfl,j⟩;refine oT g d j λd=>?_;clear g K;refine wR 6 λK g=>?_;go_simp;refine Xx (XU.o _) ?_;rintro e wz ⟨rfl,rfl⟩;refine g.o _ _ d λd=>?_;clear g K;refine wR 7 λK g=>?_;go_simp;refine g.o _ _ d λd=>?_;clear g K;refine wV 8 d ?_;refine wV 9 d ?_;refine wV 10 d ?_;refine wV 11 d ?_;refine wV 12 d ?_;refine wV 13 d ?_;refine wV 14 d ?_;refine wR 15 λK g=>?_;go_simp;refine g.o _ _ d λd=>?_;clear g K;refine wR 16 λK g=>?_;go_simp;refine g.o _ _ d λd=>?_;clear g K;refine wD ?_;try simp only[pU]
     go_wp2_with fail;go_meet;exact⟨rfl,d⟩
   case rest=>
   obtain⟨rfl,zN⟩:=hcut;have aI:=Zh (ah Ux.o zN)
   cases LH:(AR&&BL) with
   |true =>
    rw[LH,Q8 rfl]at p;obtain rfl:=p.o;clear zN p;go_wp2;go_ret3;exact⟨rfl,aI.o⟩
   |false =>
    rw[LH,Zf Qb]at p;obtain rfl:=p.o;clear zN p;go_wp2;go_ret3;exact⟨rfl,aI.o⟩
 .rw[ZL y]at t;obtain rfl:KV=(0,0,F):=by rw[B.o,Zf (λh=>y h.1)]
  clear B z W yA zM Uv S;go_enter func80,ntmps80;go_wp2_with fail;refine Xx t ?_;clear t;rintro e w5 ⟨rfl,rfl⟩;go_wp2;go_ret3;exact⟨rfl,HC.o⟩
def vE(ts:Qu af)(src aO:KJ)(s i:Nat):Bool:=
 decide (0<=E aO i 0)&&decide (E aO i 0<ax ts src) && !decide (E aO i 0∈aO.take i)&&aZ s (2 ^ aj ts src (E aO i 0))
def Kr(ts:Qu af)(src aO:KJ)(s:Nat):oh ts src aO s=(decide (0<N aO)&&decide ((N aO:Int)<=ax ts src)&&(List.range (N aO)).all (vE ts src aO s)):=rfl
theorem zw(f:bq)(ts:Qu af)(q:ae)(la:JW)(lc:Nat)(l:KJ)(s:Nat)(w:U)(ok:Ok ts q)(hf:dW w f.ca (dR ts q))(hl:IntsAt w la l)(hcap:N l<=lc)(hs:s<18446744073709551616) :
  Cb 82 #[Qr (f.cells ts q),Z la (N l) lc,I Qn (s:Int)] w (Qo (oh ts q.src.xs l s)):=by
 obtain⟨v0,v1,v2,v3,v4,v5,v6,v7,v8,v9,ay,az,aA,jW,-,-,-,-,-,-,-,ai,-⟩:=dX f ts q;obtain⟨w1,L,P,Q⟩:=aY w ((f.cells ts q)) 60;have u:=P;have iU:=Q;obtain⟨dZ,fq,gm,fD,fE,gp,gq,mi,mg,mh,fP,jc,fQ⟩:=iU.k13 (by rw[jW];rfl);subst ai;have y:=rO ok;have SG:Qk (oh ts q.src.xs l s=(decide (0<N l)&&decide (N l<=N (dR ts q))&&(List.range (N l)).all (vE ts q.src.xs l s))):=by show _=_;have hd:decide ((N l:Int)<=(N (dR ts q):Int))=decide (N l<=N (dR ts q)):=Qb;rw[Kr,<-y,hd]
 have z:Qk (∀i,vE ts q.src.xs l s i=(decide (0<=E l i 0)&&decide (E l i 0<(N (dR ts q):Int)) && !decide (E l i 0∈l.take i)&&aZ s (2 ^ aj ts q.src.xs (E l i 0)))):=λi=>by unfold vE;rw[y]
 have mU:Qk (∀x b c,Bw w1 x->Qm x (aD b 0)=O (I J c)->0<=c->c<(N (dR ts q):Int)->(Cb 75 #[Qr (f.cells ts q),Z (O (aD b 0)) 1 1] x (I Qn ((2 ^ aj ts q.src.xs c:Nat):Int)))/\2 ^ aj ts q.src.xs c<18446744073709551616):=
  λx b c hb h0 h1 h2=>⟨oH f ts q b c x ok (hf.below (ah u hb)) h0 (λc' aG=>Qc),Xg (n:=64) X (ZC (uX ok h1 X) ok.small)⟩
 have X0:Qk (∀x m,m<18446744073709551616->_):=λx m hm=>lM s m hs hm x;have Pb:Qk _:=Q7 u hl;have ak:=hl.1;have au:=hf.1;have C:=Zh u;rw[jW]at mU L ⊢;generalize oh ts q.src.xs l s=SP,vE ts q.src.xs l s=SA at*;obtain⟨SN,R⟩:∃SN:Int->Nat,∀c,2 ^ aj ts q.src.xs c=SN c:=⟨_,λ_=>rfl⟩;simp only[R]at z mU;obtain⟨S,GI⟩:=bV z.o mU.o;generalize dR ts q=CS at*;clear R z mU y jW Q iU P u hf hl ok hs;by_cases z0:N l=0
 .have p:Qk (SP=F):=Qc
  have zb:((N l:Int)==0)=true:=by rw[z0];rfl
  clear SG S GI X0 z0;go_enter func82,ntmps82;go_wp2;go_ret;exact⟨QV p.o.symm,C.o⟩
 have zb:((N l:Int)==0)=false:=by rw[Xw];omega
 by_cases z1:N CS<N l
 .have p:Qk (SP=F):=Qc
  have av:(N CS:Int)<(N l:Int):=X;clear SG S GI X0 z0;go_enter func82,ntmps82;go_wp2;go_ret;exact⟨QV p.o.symm,C.o⟩
 have X4:=Zh (by  rw[SG.o,Zg X,Zg X];rfl:SP=(List.range (N l)).all SA)
 clear SG z0;go_enter func82,ntmps82;go_wp2;clear L;go_loopw [22] (λiv wr=>∃k:Nat,k<=N l/\iv=I J k/\Qk (∀j,j<k->SA j=T)/\Bw w1 wr) (λiv _=>N l-(intOf iv).toNat)
 case atStart=>exact⟨0,ZP _,rfl,λj hj=>absurd hj X,Q5 _ _⟩
 case round=>
  obtain⟨k,hk,rfl,HJ,d⟩:=hrel;by_cases ag:k<N l
  .obtain⟨lb,lo,rfl,W⟩:=QY Pb.o ag;have ax:=cB d (W k ag);have r:=Zh (S.o k);have a:Qk (SA k=F->SP=F):=λe=>by rw[X4.o,List.all_eq_false];grind
   have B:Qk (SA k=T->∀j,j<k+1->SA j=T):=λh j hj=>by
    rcases Xv j k with h'|h'
    .exact HJ.o j h'
    grind
   have g:=qG (O (aD lb lo)) lc (l.take k) (E l k 0) wr (Q7 d (IntsAt.take Pb.o k));rw[Xu,Nat.min_eq_left X]at g;have D:=Zh (ah C.o d);clear W HJ S;generalize l.take k=LT,E l k 0=c at*;by_cases h1:c<0
   .have p:=Zh (a.o (by rw[r.o,ZL X];rfl));clear r a B g;go_wp2;go_ret;exact⟨QV p.o.symm,D.o⟩
   have p7:=cB d mi;by_cases h2:(N CS:Int)<=c
   .have p:=Zh (a.o (by rw[r.o,ZL (show ¬c<(N CS:Int) by omega),Bool.and_false];rfl));clear r a B g;go_wp2;go_ret;exact⟨QV p.o.symm,D.o⟩
   clear p7;obtain⟨q0,q1,q2,q3,q4,q5,q6,q7⟩:=oK d dZ fq gm fD fE gp gq mi;obtain⟨q8,q9,aB,aC,aF⟩:=gM d mg mh fP jc fQ;by_cases h3:c∈LT
   .have p:=Zh (a.o (by rw[r.o,Zg h3];simp));rw[Zg h3]at g;clear r a B h3;go_wp2_with fail;refine Xx g ?_;clear g;rintro e w2 ⟨rfl,rfl⟩;go_wp2;go_ret;exact⟨QV p.o.symm,D.o⟩
   rw[ZL h3]at g r;obtain⟨wa,qY⟩:=eX (wr.alloc (.cells #[I J c] 3));have v:Bw wr wa:=by rw[<-qY];exact bz _ _
   obtain⟨Eg,aa⟩:=GI.o wa wr.heap.size c (ah d v) (by rw[<-qY];simp) X X;obtain⟨X5,Wy⟩:=bV (ah d v) v;generalize SN c=m at*;have Uy:Qk (∀x,_):=λx=>X0.o x m aa;have G:decide (0<=c)=true:=Zg X;have K:decide (c<(N CS:Int))=true:=Zg X;rw[G,K]at r;generalize aZ s m=CB at*;clear G K v aa h3
   cases CB with
   |true =>
    have HT:=Zh (B.o (by rw[r.o];rfl));clear r a B;go_wp2_with fail;refine Xx g ?_;clear g;rintro e w2 ⟨rfl,rfl⟩;go_wp2_with fail;refine Xx Eg ?_;clear Eg qY;rintro e w3 ⟨rfl,t⟩;have A:=Zh (ah X5.o t);clear t d;go_wp2_with fail;refine Xx (Uy.o _) ?_;rintro e w4 ⟨rfl,rfl⟩;go_wp2;go_roundw
    case rel=>exact⟨k+1,X,Qf,HT.o,A.o⟩
    case measure=>exact Qw
   |false =>
    have p:=Zh (a.o (by rw[r.o];rfl));clear r a B;go_wp2_with fail;refine Xx g ?_;clear g;rintro e w2 ⟨rfl,rfl⟩;go_wp2_with fail;refine Xx Eg ?_;clear Eg qY;rintro e w3 ⟨rfl,t⟩;have A:=Zh (ah C.o (ah X5.o t));clear t d;go_wp2_with fail;refine Xx (Uy.o _) ?_;rintro e w4 ⟨rfl,rfl⟩;go_wp2;go_ret;exact⟨QV p.o.symm,A.o⟩
  .have p:=Zh (by rw[X4.o,Q4];exact λi hi=>HJ.o i (Qj (ZY.1 hi)):SP=T)
   have D:=Zh (ah C.o d);clear HJ S GI d;go_wp2;go_ret;exact⟨QV p.o.symm,D.o⟩
def vF(ts:Qu af)(q:ae)(n:ag)(l r:bZ):Bool:=
 (jh ts q n l.sources r.sources).2.2&&fM ts q n l.sources r.sources&&aM l.order [(jh ts q n l.sources r.sources).1]&&aM r.order [(jh ts q n l.sources r.sources).2.1]
theorem xk(f:bq)(ts:Qu af)(q:ae)(n:ag)(l r:aC)(w:U)(ok:Ok ts q)(hf:f.At ts q w)(hn:n.cl.At w)(hl:l.Ok w)(hr:r.Ok w) :
  Cb 81 #[Qr (f.cells ts q),Qr n.cells,Qr l.cells,Qr r.cells] w (Qo (vF ts q n l.d r.d)):=by
 obtain⟨v0,v1,v2,v3,v4,v5,v6,v7,v8,v9,aV,aW,aX,jW,-⟩:=dX f ts q;have Uo:n.cells=#[I J n.kind,I J n.l,I J n.r,I J n.source,n.cl.val,I J n.key,n.co.val]:=rfl;have m:l.cells=#[I J l.kind,I Qn (l.sources:Int),I Qn (l.clauses:Int),l.order.val,I Qn (l.size:Int),I Qn (l.cost:Int)]:=rfl;have LJ:r.cells=#[I J r.kind,I Qn (r.sources:Int),I Qn (r.clauses:Int),r.order.val,I Qn (r.size:Int),I Qn (r.cost:Int)]:=rfl;obtain⟨w1,ak,au,L⟩:=aY w ((f.cells ts q)) 60;obtain⟨w2,av,ax,P⟩:=aY w1 n.cells 52;obtain⟨w3,ay,az,Q⟩:=aY w2 l.cells 65;obtain⟨w4,aA,aB,aF⟩:=aY w3 r.cells 65;have y:=aB;have z:=ah az y;have A:=ah ax z;have g:=ah au A;have iU:=L.of (A.block _ L.lt);have oC:=P.of (z.block _ P.lt);obtain⟨vB,uZ,ve,CZ,vg,Db,Hm⟩:=oC.k7;have Mk:=Q.of (y.block _ Q.lt);obtain⟨aG,J2,aH,aI,aJ,aK⟩:=Mk.k6;have Sm:=aF;obtain⟨aL,J3,aN,aO,aP,aQ⟩:=Sm.k6;obtain⟨dZ,fq,gm,fD,fE,gp,gq,mi,mg,mh,fP,jc,fQ⟩:=iU.k13 (by rw[jW];rfl);have p:=ng f ts q n l r w4 ok (hf.below g) (Q7 g hn) hl.sources hr.sources;have Rb:Qk (∀x,Bw w4 x->_):=λx v=>qH f ts q n l r x ok (hf.below (ah g v)) (Q7 (ah g v) hn) hl.sources hr.sources;have IX:Qk (∀x b c,Bw w4 x->Qm x (aD b 0)=O (I J c)->Cb 84 #[Z l.order.ad (N l.order.xs) l.order.cap,Z (O (aD b 0)) 1 1] x (Qo (aM l.order.xs [c]))):=
  λx b c v h0=>lV l.order.ad (O (aD b 0)) l.order.cap 1 l.order.xs [c] x (Q7 (ah g v) hl.order) ⟨Qb,λi hi=>⟨b,0,rfl,by
   grind⟩⟩ hl.cap
 have mo:Qk (∀x b c,Bw w4 x->Qm x (aD b 0)=O (I J c)->Cb 84 #[Z r.order.ad (N r.order.xs) r.order.cap,Z (O (aD b 0)) 1 1] x (Qo (aM r.order.xs [c]))):=
  λx b c v h0=>lV r.order.ad (O (aD b 0)) r.order.cap 1 r.order.xs [c] x (Q7 (ah g v) hr.order) ⟨Qb,λi hi=>⟨b,0,rfl,by
   grind⟩⟩ hr.cap
 have t:Qk (vF ts q n l.d r.d=((jh ts q n l.sources r.sources).2.2&&fM ts q n l.sources r.sources&&aM l.order.xs [(jh ts q n l.sources r.sources).1]&&aM r.order.xs [(jh ts q n l.sources r.sources).2.1])):=rfl;have HC:=Zh g;rw[jW,Uo,m,LJ]at p Rb;rw[jW]at ak;rw[Uo]at av;rw[m]at ay;rw[LJ]at aA;rw[jW,Uo,m,LJ];generalize vF ts q n l.d r.d=MP,fM ts q n l.sources r.sources=JP,jh ts q n l.sources r.sources=KP at*;obtain⟨ka,kb,aR⟩:=KP;obtain⟨nk,nl,nr,ns,⟨na,nc,nx⟩,ny,⟨oa,oc,ox⟩⟩:=n;obtain⟨lk,ls,aZ,⟨la,bf,lx⟩,lz,bg⟩:=l;obtain⟨rk,rs,bn,⟨ra,bu,rx⟩,rz,bA⟩:=r;unfold ai.val at*;simp only at*
 cases aR with
 |false =>
  have u:=Zh (by  rw[t.o];rfl:MP=F)
  go_enter func81,ntmps81;go_wp2_with fail;refine Xx p ?_;rintro e w5 ⟨rfl,a⟩;have zK:=Zh (ah HC.o a);go_wp2;go_ret;exact⟨QV u.o.symm,zK.o⟩
 |true =>
  go_enter func81,ntmps81;go_wp2_with fail;refine Xx p ?_;rintro e w5 ⟨rfl,a⟩;obtain⟨PQ,PR,PS,PT,PU,PW,PX,PY⟩:=oK a dZ fq gm fD fE gp gq mi;obtain⟨PZ,Ra,Kn,Ko,Kq,bB,bC,bD⟩:=oK a mg mh fP jc fQ vB uZ ve;obtain⟨bE,bF,bG,bH,bI,bJ,PM,PN⟩:=oK a CZ vg Db Hm aG aL J2 J3;obtain⟨bK,bL,aS,aT,bM,bN,bO,bP⟩:=oK a aH aN aI aO aJ aP aK aQ;have B:=Rb.o w5 a;obtain⟨zK,R⟩:=bV a (ah HC.o a)
  cases JP with
  |false =>
   have u:=Zh (by  rw[t.o];rfl:MP=F)
   go_wp2_with fail;refine Xx B ?_;rintro e w6 ⟨rfl,j⟩;have ug:=Zh (ah R.o j);go_wp2;go_ret;exact⟨QV u.o.symm,ug.o⟩
  |true =>
   have C:=Zh (by  rw[t.o];rfl:MP=(aM lx [ka]&&aM rx [kb]))
   go_wp2_with fail;refine Xx B ?_;rintro e w6 ⟨rfl,j⟩;obtain⟨e3,e4⟩:=iA j aS aT;obtain⟨ug,Uw⟩:=bV (ah zK.o j) (ah R.o j);obtain⟨wa,qY⟩:=eX (w6.alloc (.cells #[I J ka] 3));have k:Bw w6 wa:=by rw[<-qY];exact bz _ _
   have D:=IX.o wa w6.heap.size ka (ah ug.o k) (by rw[<-qY];simp);obtain⟨X5,xh⟩:=bV (ah ug.o k) (ah Uw.o k);have aa:=cB k e4;generalize aM lx [ka]=S1 at*
   cases S1 with
   |false =>
    have u:=Zh (by  rw[C.o];rfl:MP=F)
    go_wp2_with fail;refine Xx D ?_;rintro e w7 ⟨rfl,S⟩;have zL:=Zh (ah xh.o S);go_wp2;go_ret;exact⟨QV u.o.symm,zL.o⟩
   |true =>
    have u:=Zh (by  rw[C.o];rfl:MP=aM rx [kb])
    go_wp2_with fail;refine Xx D ?_;rintro e w7 ⟨rfl,S⟩;have aU:=cB S aa;obtain⟨zL,Ux⟩:=bV (ah X5.o S) (ah xh.o S);obtain⟨wb,W⟩:=eX (w7.alloc (.cells #[I J kb] 3));have G:Bw w7 wb:=by rw[<-W];exact bz _ _
    have K:=mo.o wb w7.heap.size kb (ah zL.o G) (by rw[<-W];simp);rw[<-u.o]at K;have yA:=Zh (ah Ux.o G);go_wp2_with fail;refine Xx K ?_;rintro e w8 ⟨rfl,zN⟩;have aj:=Zh (ah yA.o zN);go_wp2;go_ret;exact⟨rfl,aj.o⟩
