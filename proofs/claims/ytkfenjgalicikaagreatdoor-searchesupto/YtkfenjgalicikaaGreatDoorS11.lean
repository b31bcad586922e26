import Derived.Test.YtkfenjgalicikaaGreatDoorS07
set_option linter.all false
set_option maxRecDepth 100000
set_option maxHeartbeats 0
namespace Go.Proofs.Zz
open Go.RowKit Go.Shelf Go.Proofs.Tryz
open List renaming length->N,getD->E
open Go.Value renaming slice->Z,int->I,pointer->Y,agg->Qt
open Go.Proofs.Tryz renaming prog->V
open Option renaming some->O
open Go.IntKind renaming i64->J
open Go renaming World->U,Value->Ql
open Go.World renaming heap->H,cell?->Qo
open _root_.Array renaming size->M
open Go.RowKit renaming Hid->Qm
open Go.Obj renaming cells->Qs
open Go.Ending renaming returned->Qu
variable {Fq:Pm} {W0 w w' w0:U} {f:bC} {ts:JK af} {q:ae} {v v':Ql} {Tl Tp Tq:TypeId} {a base:Nat} {t:bF} {bs:JK (Nat × bF)} {o:aA} {os:JK aA}
def YD(Eq:vS f ts q W0)(hz:Fz Fq W0 w)(s:Int)(h0:0<=s)(h1:s<N q.au.xs) :
  Calls V 189 #[Qt (f.cells ts q),I J s] w (dU 144 Fq w (dE ts q (bE ts q) s)):=by
 obtain⟨v0,v,v2,v3,v4,v5,y,z,A,v9,B,C,D,G,-⟩:=Jh f ts q;obtain⟨T0,j⟩:=eY (aS ts q (lh s) []);have nC:oK q T0:=by rw[j];exact rf ts q _ _ ⟨(by decide:(1:Int)<=1),(by decide:(1:Int)<=10)⟩ (λ_=>⟨h0,h1⟩) (Jl _) (λb m=>by cases m)
 have L:T0.d.ah<18446744073709551616:=ZO nC.au (ZP (n:=2) X Eq.ok.ig);have P:Qm (∀x,Bw w x->Calls V 128 #[Qt #[v0,v,v2,v3,v4,v5,y,z,A,v9,B,C,D],Qt #[I J 1,I J 0,I J 0,I J s,Z none 0 0,I J 0,Z none 0 0],Z none 0 0] x (dU 144 Fq x T0)):=λx t=>by rw[<-G,j];exact Sk Eq (hz.next t) s h0 h1
 have Q:Qm (∀x,Bw w x->Cb 222 #[Qt #[v0,v,v2,v3,v4,v5,y,z,A,v9,B,C,D],I .u64 (T0.d.ah:Int)] x (I .u64 ((bJ (bE ts q) T0.d.ah:Nat):Int))):=λx t=>by rw[<-G];exact Ki f ts q _ x Eq.ok ((Eq.oO hz).aj t) L
 have S:Qm (∀x r,Bw w x->bM 144 Fq x r T0->r<M (H x)->Calls V 129 #[Qt #[v0,v,v2,v3,v4,v5,y,z,A,v9,B,C,D],Y (O (aD r 0)),I .u64 ((bJ (bE ts q) T0.d.ah:Nat):Int)] x λe w'=>∃i,e=Qu (Y (O (aD i 0)))/\bM 144 Fq w' i (dz ts q T0 (bJ (bE ts q) T0.d.ah))/\(i = r∨M (H x)<=i)/\i<M (H w')/\Bw x w'):=λx r t hr hl=>by rw[<-G];exact F3 Eq (hz.next t) r T0 hr nC _ (by have:=lU (bE ts q) T0.d.ah (N (bE ts q));rw[XN]at this;unfold bJ;rw[XN];exact this) hl
 have hR:dE ts q (bE ts q) s=dz ts q T0 (bJ (bE ts q) T0.d.ah):=by rw[j];rfl
 rw[hR,G];generalize dz ts q T0 (bJ (bE ts q) T0.d.ah)=R at*;generalize bJ (bE ts q) T0.d.ah=wi at*;obtain⟨w1,dB,bL,ag⟩:=bI w #[v0,v,v2,v3,v4,v5,y,z,A,v9,B,C,D] 118;obtain⟨a0,a1,a2,a3,a4,a5,a6,a7,a8,a9,wU,yD,yE⟩:=ag.vV;have l:=Zh bL;have W:=P.o w1 bL;go_enter func189,ntmps189;go_wp2_with fail;refine W.mono ?_;rintro e w2 ⟨r,rfl,hT,lN,ai,k⟩;obtain⟨b0,b1,b2,b3,b4,b5,b6,b7⟩:=Da k a0 a1 a2 a3 a4 a5 a6 a7;obtain⟨b8,b9,aA,aB,aC⟩:=qi k a8 a9 wU yD yE;obtain⟨p,hP,LX⟩:=hT.rC;have p1:Qo w2 (aD r 1)=O (I .u64 (T0.d.ah:Int)):=by have:=hP.c1;have e:p.ah=T0.d.ah:=congrArg dG.ah LX;rw[e]at this;exact this
 obtain⟨HT,ak,av,g⟩:=De hT lN ai (aO l.o k);generalize T0.d.ah=sr at*;go_wp2_with fail;refine wH w2 λa=>?_;refine wA8 0 a ?_;refine wR 8 λK u=>?_;go_simp;refine mR (Q.o _ (aO g.o a)) λw3 m=>?_;refine oT u a m λa=>?_;refine wR 9 λK u=>?_;go_simp;refine Jg (S.o _ r (aO g.o a) (HT.o.aj a) (ZO av.o a.size)) ?_;rintro e w4 ⟨i,rfl,ax,ay,az,m⟩;have ni:=a.size;refine oT u a m λa=>?_;refine wR 10 λK u=>?_;go_simp;refine u.o _ _ a λa=>?_;refine wD ?_;try simp only[pU]
 have aa:M (H w)<=i:=by
  rcases ay with h|h
  .rw[h];exact ZU l.o.size ak.o
  .exact ZU g.o.size (ZU ni h)
 have HP:Qm (dU 144 Fq w R (Qu (Y (O (aD i 0)))) w4):=⟨i,rfl,ax,aa,az,aO g.o a⟩;go_wp2;go_ret;exact HP.o
theorem aht(Eq:vS f ts q W0)(hz:Fz Fq W0 w)(a:Nat)(t:bF)(ht:bM 144 Fq w a t)(hto:oK q t) :
  Calls V 249 #[Qt (f.cells ts q),Y (O (aD a 0))] w (dU 144 Fq w (jg ts q t)):=by
 obtain⟨v0,A,v2,v3,v4,v5,B,v7,v8,v9,fO,fP,fQ,iq,W,aa,ag,ah,ai,ak,au,-⟩:=Jh f ts q;have Di:q.cells=#[v0,A,v2,v3,v4,v5,B]:=by rw[W,aa,ag,ah,ai,ak,au];rfl
 clear W aa ag ah ai ak au;obtain⟨K,j⟩:=eX (bK q t.d.aH);have az:=Nf q t.d.aH;rw[j]at az;obtain⟨m,k⟩:=eX (aS ts q (eU K) [t]);have l:oK q m:=by rw[<-k];exact Ng ts X X hto
 obtain⟨T2,YE⟩:=eX (aS ts q (eU 10) [m]);have hR:jg ts q t=if kF q K t.d.aH=true then m else T2:=by unfold jg;simp only;rw[j,k,YE]
 obtain⟨R,y⟩:=eY (jg ts q t);rw[<-y];have D:Qm (R=if kF q K t.d.aH=true then m else T2):=by rw[<-hR];exact y
 clear y;obtain⟨p,C,LX⟩:=ht.rC;have Ei:p.aH.xs=t.d.aH:=congrArg dG.aH LX;have CE:Qm (∀x b,Bw w x->Qo x (aD b 0)=O (Y (O (aD a 0)))->Calls V 128 #[Qt #[v0,A,v2,v3,v4,v5,B,v7,v8,v9,fO,fP,fQ],Qt #[I J K,I J 0,I J 0,I J 0,Z none 0 0,I J 0,Z none 0 0],Z (O (aD b 0)) 1 1] x (dU 144 Fq x m)):=λx b i hc=>by rw[<-iq,<-k];exact Bh Eq (hz.next i) ⟨K,0,0,0,iU,0,iU⟩ ⟨mh x,vP.nil _ _,λ_=>rfl,mh x,vP.nil _ _,λ_=>rfl,Zb _,ZR _,ZR _⟩ a b t (ht.aj i) hto hc (ahs (by show 6<=K;omega)) (by show 2<=K;omega) (by show K<=10;omega) (Jl _)
 have aB:Qm (∀x b r,Bw w x->bM 144 Fq x r m->Qo x (aD b 0)=O (Y (O (aD r 0)))->Calls V 128 #[Qt #[v0,A,v2,v3,v4,v5,B,v7,v8,v9,fO,fP,fQ],Qt #[I J 10,I J 0,I J 0,I J 0,Z none 0 0,I J 0,Z none 0 0],Z (O (aD b 0)) 1 1] x (dU 144 Fq x T2)):=λx b r i hr hc=>by rw[<-iq,<-YE];exact Bh Eq (hz.next i) ⟨10,0,0,0,iU,0,iU⟩ ⟨mh x,vP.nil _ _,λ_=>rfl,mh x,vP.nil _ _,λ_=>rfl,Zb _,ZR _,ZR _⟩ r b m hr l hc rfl (by decide:(2:Int)<=10) (by decide:(10:Int)<=10) (Jl _)
 have aC:Qm (∀x,Bw w x->Cb 272 #[Qt #[v0,A,v2,v3,v4,v5,B],p.aH.val] x (I J K)):=λx i=>by have:=YB q p.aH x ((Eq.ak5 hz).aj i).oO (Zc i C.ok.aH) C.ok.cap;grind
 have aG:Qm (∀x,Bw w x->Cb 273 #[Qt #[v0,A,v2,v3,v4,v5,B],I J K,p.aH.val] x (.bool (kF q K t.d.aH))):=λx i=>by
  have:=Us q K p.aH.ad p.aH.cap p.aH.xs x ((Eq.oO hz).qC.aj i) ⟨λh9=>Eq.ord (by
   cases hg:q.aF with
   |false=>rfl
   |true =>
    rw[<-j]at h9;unfold bK at h9;grind),Qj Eq.D6⟩ (Zc i C.ok.aH) C.ok.cap
  rw[Di,Ei]at this;rw[<-Ei]at this;rw[<-Ei];exact this
 have p3:=C.c3;rw[iq];clear iq Di hR k YE l C LX Ei j ht hto Eq hz;generalize kF q K t.d.aH=EB,p.aH=po at*;obtain⟨oa,oc,ox⟩:=po;simp only[aA.val]at*;obtain⟨w1,dB,bL,av⟩:=bI w #[v0,A,v2,v3,v4,v5,B,v7,v8,v9,fO,fP,fQ] 118;have ca:=av.vV;have G:=Zh bL;have q3:=cB bL p3;clear bL p3;go_enter func249,ntmps249;go_wp2_with fail;clear dB;refine wH w1 λg=>?_;refine wA6 0 g ?_;refine rR 6 g ?_;refine wR 7 λK j=>?_;go_simp;refine mR (aC.o _ (aO G.o g)) λw2 hb=>?_;refine oT j g hb λg=>?_;clear j K;refine rR 8 g ?_;refine wD ?_;try simp only[pU]
 have n:=Zh (aO G.o g);have aI:=cB g q3;have L:=av.up g;have cb:=L.vV;clear ca;obtain⟨w3,ax⟩:=eX (w2.alloc (Qs #[Y (O (aD a 0))] 136));have P:Bw w2 w3:=by rw[<-ax];exact fo _ _
 have aJ:=CE.o w3 (M (H w2)) (aO n.o P) (by rw[<-ax];simp);have Q:=Zh P;go_wp2_with fail;refine aJ.mono ?_;rintro e w4 ⟨r,rfl,hT,lN,z,aM⟩;have uQ:=aO Q.o aM;have q3:=cB uQ aI;have S:=L.up uQ;have cc:=S.vV;obtain⟨qO,HT,aN,aP⟩:=De (aO n.o uQ) hT (ZU n.o.size (ZU Q.o.size lN)) z;go_wp2_with fail;refine wH w4 λg=>?_;refine wA8 0 g ?_;refine wR 8 λK j=>?_;go_simp;refine mR (aG.o _ (aO qO.o g)) λw5 hb=>?_;refine oT j g hb λg=>?_;refine wD ?_;try simp only[pU]
 have qd:=Zh (aO qO.o g);have aK:=S.up g;have cd:=aK.vV;obtain⟨ay,aQ⟩:=bH (HT.o.aj g) (ZO aP.o g.size)
 cases EB with
 |true =>
  go_wp2;go_ret;have u:R=m:=D.o;rw[u];exact⟨r,rfl,ay.o,aN.o,aQ.o,qd.o⟩
 |false =>
  obtain⟨w6,yw⟩:=eX (w5.alloc (Qs #[Y (O (aD r 0))] 136));have v:Bw w5 w6:=by rw[<-yw];exact fo _ _
  have aL:=aB.o w6 (M (H w5)) r (aO qd.o v) (ay.o.aj v) (by rw[<-yw];simp);have yu:=Zh (aO qd.o v);go_wp2_with fail;refine aL.mono ?_;rintro e w7 ⟨r',rfl,hT,lN,z,uz⟩;have HP:Qm (dU 144 Fq w T2 (Qu (Y (O (aD r' 0)))) w7):=⟨r',rfl,hT,ZU yu.o.size lN,z,aO yu.o uz⟩;go_wp2;go_ret;have u:R=T2:=D.o;rw[u];exact HP.o
def adL(ao:LM)(n cap:Nat)(pick:Int)(w:U)(h0:0<n)(hn:n<4611686018427387904) :
  Ce 146 #[Z ao n cap,I J pick] w (I J (eF n pick)):=by
 have d:-(n:Int)<pick.tmod n/\pick.tmod n<n:=⟨Int.lt_tmod_of_pos pick X,Int.tmod_lt_of_pos pick X⟩;have b:Qm (eF n pick=(pick.tmod n+n).tmod n):=rfl;generalize eF n pick=R at*;obtain⟨m,i⟩:=eX (pick.tmod n);rw[i]at d b;have j:wrap64 (m+n)=m+n:=by unfold wrap64;omega
 obtain⟨e,a⟩:=eX ((m+(n:Int)).tmod n);rw[a]at b;have f:-(n:Int)<e/\e<n:=by rw[<-a];exact⟨Int.lt_tmod_of_pos _ X,Int.tmod_lt_of_pos _ X⟩
 have g:wrap64 m=m:=by unfold wrap64;omega
 clear d f;go_enter func146,ntmps146;go_wp2;go_ret;exact⟨Q0 (by rw[b.o]),rfl⟩
def Fv(Fq:Pm)(v:Ql):Pm:=λb=>Fq b/\v.ownBlock≠O b
def Fz.own(h:Fz Fq W0 w)(hv:∀g,v.ownBlock=O g->M (H W0)<=g/\g<M (H w)):Fz (Fv Fq v) W0 w:=
 ⟨h.aj,λb a=>⟨h.low b a,λe=>Qk ((hv b e).1) a.lt⟩,λb a=>⟨h.high b a,λe=>Qj ((hv b e).2)⟩⟩
def bM.own(h:bM Tq Fq w0 a t)(hb:Bw w0 w)(hv:∀g,v.ownBlock=O g->M (H w0)<=g):bM Tq (Fv Fq v) w a t:=
 (h.mono (G:=Fv Fq v) (λb hb d=>⟨d,λe=>Qj (hv b e)⟩)).aj hb
def bM.afn(h:bM Tq (Fv Fq v) w a t):bM Tq Fq w a t:=h.mono λ_ _ h=>h.1
structure gG(Tq Tp:TypeId)(Fq:Pm)(base:Nat)(w:U)(v:Ql)(bs:JK (Nat × bF)):Prop where
 own:w.ownsRow base Tp 1 v (N bs) ((bs.map Prod.fst).map λx=>Value.pointer (O (aD x 0)))
 iE:∀x∈bs,bM Tq (Fv Fq v) w x.1 x.2/\base<=x.1/\x.1<M (H w)
 Hu:(bs.map Prod.fst).Pairwise (· < ·)
def oC(Tq Tp:TypeId)(Fq:Pm)(w:U)(l:JK bF)(e:Ending)(w':U):Prop:=
 ∃v bs,e=Qu v/\bs.map Prod.snd=l/\gG Tq Tp Fq (M (H w)) w' v bs/\Bw w w'
def gG.one{b:Nat}(hb:base<=b)(hg:GB w b Tp #[Y (O (aD a 0))])(ht:bM Tq Fq w0 a t)(hw:Bw w0 w)(h0:M (H w0)<=b)(ha:base<=a)(hl:a<M (H w)):gG Tq Tp Fq base w (Z (O (aD b 0)) 1 1) [(a,t)]:=
 ⟨⟨rfl,.inr ⟨b,1,#[Y (O (aD a 0))],rfl,hb,hg,Zb _,Qg,rfl,rfl⟩⟩,λx d=>by rw[XH]at d;rw[d];exact⟨ht.own hw (λg e=>by cases e;exact h0),ha,hl⟩,List.pairwise_singleton _ _⟩
theorem gG.aj{Tq Tp:TypeId}{Fq:Pm}{base:Nat}{w w':U}{v:Ql}{bs:JK (Nat × bF)}(h:gG Tq Tp Fq base w v bs)(hb:Bw w w'):gG Tq Tp Fq base w' v bs:=
 ⟨Ja h.own hb,λx a=>⟨(h.iE x a).1.aj hb,(h.iE x a).2.1,ZO (h.iE x a).2.2 hb.size⟩,h.Hu⟩
theorem bM.Ej(h:bM Tq (Fv Fq v) w a t)(hk:aB (λb=>v.ownBlock≠O b) w w')(jl:v'.ownBlock=v.ownBlock∨∃g,v'.ownBlock=O g/\M (H w)<=g):bM Tq (Fv Fq v') w' a t:=by
 have i:=h.mono (G:=λb=>Fv Fq v b/\Fv Fq v' b) (λb f d=>⟨d,d.1,λe=>by
  rcases jl with h|⟨g,h,j⟩
  .exact d.2 (h ▸ e)
  grind⟩)
 exact(i.eG (hk.mono λb _ f=>f.1.2)).mono λ_ _ h=>h.2
theorem gG.push(h:gG Tq Tp Fq base w0 v bs)(hb:Bw w0 w)(ht:bM Tq (Fv Fq v) w a t)(ha:M (H w0)<=a)(hl:a<M (H w))(axI:base<=M (H w0))
  (ho:w'.ownsRow base Tp 1 v' (N (bs.map Prod.fst++[a])) ((bs.map Prod.fst++[a]).map λx=>Value.pointer (O (aD x 0)))) (hk:aB (λb=>v.ownBlock≠O b) w w') (jl:v'.ownBlock=v.ownBlock∨∃g,v'.ownBlock=O g/\M (H w)<=g):gG Tq Tp Fq base w' v' (bs++[(a,t)]):=by
 refine⟨?_,λx d=>?_,?_⟩
 .grind
 .rcases Z5.1 d with d|d
  .have:=h.iE x d;exact⟨(this.1.aj hb).Ej hk jl,this.2.1,ZO this.2.2 (ZU hb.size hk.size)⟩
  .rw[XH]at d;rw[d];exact⟨ht.Ej hk jl,ZU axI ha,ZO hl hk.size⟩
 .rw[Q7,List.pairwise_append];refine⟨h.Hu,List.pairwise_singleton _ _,λx d y e=>?_⟩;obtain⟨z,hz,rfl⟩:=Xc.1 d;rw[List.map_singleton,XH]at e;rw[e];exact ZO (h.iE z hz).2.2 ha
theorem gG.len(h:gG Tq Tp Fq base w v bs):N (bs.map Prod.fst)=N bs:=ZX _
def Em(h:gG 144 136 Fq base w v bs){y:U}(hb:Bw w y)(hw:base<=M (H w))(hl:N bs<=1000)(ht:bM 144 (Fv Fq v) y a t)(ha:M (H w)<=a)(xz:a<M (H y)) :
  ∃d z,(Builtin.append_ #[142,142] 142 #[v,Z (O (aD (M (H y)) 0)) 1 1]).run V (y.alloc (Qs #[Y (O (aD a 0))] 136))=.ok d z/\
   gG 144 136 Fq base z d (bs++[(a,t)])/\Below base y z/\aB (λb=>v.ownBlock≠O b) y z/\(d.ownBlock=v.ownBlock∨∃g,d.ownBlock=O g/\M (H y)<=g)/\∃a m c,d = Z a m c:=by have k:=ZU hw hb.size;have i:=(h.aj hb).own;rw[<-h.len]at i hl;obtain⟨d,z,l,n,j,p,q⟩:=Yv y base v _ i hl k a 142;have f:d.ownBlock=v.ownBlock∨∃g,d.ownBlock=O g/\M (H y)<=g:=q.imp id (λe=>⟨_,e,X⟩);exact⟨d,z,l,h.push hb ht ha xz hw n j f,j.aj k (λb hb e=>Qj ((Xy i e).1)),j,f,p⟩
theorem UQ(a:Nat)(t:bF)(ht:bM 144 Fq w a t)(bo:LM)(bc:Nat)(bs:JK (Nat × bF))(hp:gy w bo (bs.map Prod.fst))(uH:∀x∈bs,bM 144 Fq w x.1 x.2)(hl:N bs<=1000) :
  Calls V 218 #[Y (O (aD a 0)),Z bo (N bs) bc] w λe w'=>∃r,e=Qu (Y (O (aD r 0)))/\bM 144 Fq w' r (iY t (bs.map Prod.snd))/\Bw w w':=by
 have HP:=Zh hp;have rP:Qm (N (bs.map Prod.fst)=N bs):=ZX _;obtain⟨f,g⟩:=eY (λk=>iY t ((bs.map Prod.snd).take k):Nat->bF);obtain⟨q,i⟩:=eY (λk=>E (bs.map Prod.snd) k uT:Nat->bF);have y:Qm (∀k,k<N bs->f (k+1)=(if (q k).d.aJ<(f k).d.aJ then q k else f k)/\bM 144 Fq w (E (bs.map Prod.fst) k 0) (q k)):=λk P=>by refine⟨?_,by rw[i];grind⟩;rw[g,i];simp only;rw[Jt _ uT (by rw[ZX];exact P)];unfold iY;rw[XU];rfl
 have K:Qm (bM 144 Fq w a (f 0)/\f (N bs)=iY t (bs.map Prod.snd)):=by rw[g];exact⟨ht,by simp only;rw[XW Qa]⟩
 clear ht hp uH g i;generalize iY t (bs.map Prod.snd)=R,bs.map Prod.fst=bf,N bs=bl at*;go_enter func218,ntmps218;go_wp2;go_loopw [5,11] (λpv G wr=>∃k r:Nat,k<=bl/\G=I J (k:Int)/\pv=Y (O (aD r 0))/\Qm (bM 144 Fq w r (f k))/\Qm (Bw w wr)) (λ_ G _=>bl-(intOf G).toNat)
 case atStart=>exact⟨0,a,ZR _,rfl,rfl,K.o.1,Za _ _⟩
 case round=>
  obtain⟨k,r,P,rfl,rfl,u,j⟩:=hrel;by_cases aT:k<bl
  .have b:k<N bf:=by rw[rP.o];exact aT
   obtain⟨bb,ae,rfl,l⟩:=gy.get (HP.o.aj j.o) b;have aa:=l k b;obtain⟨A,B⟩:=y.o k aT;generalize E bf k 0=x at*;obtain⟨p,Q,S⟩:=u.o.rC;obtain⟨C,m,n⟩:=B.rC;obtain⟨c1,c2⟩:=kP j.o Q.c5 m.c5;rw[show (q k).d.aJ=C.aJ from (congrArg dG.aJ n).symm,show (f k).d.aJ=p.aJ from (congrArg dG.aJ S).symm]at A;obtain⟨W,HX⟩:=bH A B;generalize p.aJ=cr,C.aJ=cx at*;clear l Q m S n A B b p C;obtain⟨wq,D⟩:=eY (wr);subst D;go_wp2_with fail;refine wH wq λv=>?_;refine GZ 0 v ?_;rcases Jd cx cr with L|L
   all_goals
    refine rR 10 v ?_;refine wD ?_;have z:=Zh (aO j.o v);clear v c1 c2;refine gQ ?_;exact⟨k+1,_,X,Qe,rfl,by first|(rw[W.o,Zd L];exact HX.o)|(rw[W.o,Zk X];exact u.o),z.o⟩
  .obtain rfl:k=bl:=X
   rw[K.o.2]at u;go_wp2;go_ret;exact⟨r,rfl,u.o.aj j.o,j.o⟩
def YF(Eq:vS f ts q W0)(hz:Fz Fq W0 w)(a:Nat)(t:bF)(ht:bM 144 Fq w a t)(hto:oK q t) :
  Calls V 219 #[Qt (f.cells ts q),Y (O (aD a 0))] w (oC 144 136 Fq w (dQ ts q t)):=by
 obtain⟨v0,S,v2,v3,v4,v5,W,v7,v8,v9,fO,fP,fQ,iq,aa,ag,ah,ai,ak,au,av,-⟩:=Jh f ts q;have Di:q.cells=#[v0,S,v2,v3,v4,v5,W]:=by rw[aa,ag,ah,ai,ak,au,av];rfl
 clear aa ag ah ai ak au av;have V6:Qm (∀(G:Pm) x r u,Fz G W0 x->bM 144 G x r u->oK q u->Calls V 249 #[Qt #[v0,S,v2,v3,v4,v5,W,v7,v8,v9,fO,fP,fQ],Y (O (aD r 0))] x (dU 144 G x (jg ts q u))):=λG x r u hx hr hu=>by rw[<-iq];exact aht Eq hx r u hr hu
 have aG:Qm (∀(G:Pm) x,Fz G W0 x->Calls V 130 #[Qt #[v0,S,v2,v3,v4,v5,W]] x (Nb G x (aR q))):=λG x hx=>by rw[<-Di];exact FZ Eq hx
 have Df:Qm (∀(G:Pm) x (o:aA),Fz G W0 x->bM 144 G x a t->o.xs=aR q->gP G x o->Calls V 250 #[Qt #[v0,S,v2,v3,v4,v5,W,v7,v8,v9,fO,fP,fQ],Y (O (aD a 0)),o.val] x (dU 144 G x (bW ts q t (aR q)))):=λG x o hx ht ho hi=>by rw[<-iq,<-ho];exact Nc Eq hx a t ht hto o hi.oO hi.inf hi.nil hi.cap (by rw[ho];have:=Eq.ak4;omega)
 obtain⟨w1,dB,bL,z⟩:=bI w #[v0,S,v2,v3,v4,v5,W,v7,v8,v9,fO,fP,fQ] 118;obtain⟨a0,a1,a2,a3,a4,a5,a6,a7,a8,a9,wU,yD,yE⟩:=z.vV;have P:=V6.o Fq w1 a t (hz.next bL) (ht.aj bL) hto;have m:Qm (dQ ts q t=if 0<N (aR q) then [jg ts q t,jg ts q (bW ts q t (aR q))] else [jg ts q t]):=rfl;obtain⟨aI,aJ,HZ,ax,CE⟩:=Wu (Ec (ts:=ts) (aR q) hto) ht hz bL z;rw[iq];clear iq Di ht hto Eq hz bL z;generalize dQ ts q t=R at*;go_enter func219,ntmps219;go_wp2_with fail;refine P.mono ?_;rintro e l ⟨r,rfl,hT,lN,ay,p⟩;obtain⟨w3,aK,g,A⟩:=bI l #[Y (O (aD r 0))] 136;have j:=aO ax.o p;have n:=aO j g;have VZ:=Zh (gG.one j.size A hT g (Zb _) (ZU ax.o.size lN) (ZO ay g.size));have hg:=CE.o.up (aO p g);obtain⟨B,aL⟩:=bH (Fz.cut (HZ.o.next j) g) ((aJ.o.mono (G:=Fnw Fq (M (H l)) (M (H w3))) λb hb hF=>.inl ⟨hF,ZO hb j.size⟩).aj n);have aH:Qm (∀b,Fnw Fq (M (H l)) (M (H w3)) b->Fv Fq (Z (O (aD (M (H l)) 0)) 1 1) b):=λb h=>by
  have:=A.lt;rcases h with⟨h1,h2⟩|h1
  .exact⟨h1,λe=>by have e:M (H l)=b:=Jy e;omega⟩
  .exact⟨HZ.o.high b (Qj n.size),λe=>by have e:M (H l)=b:=Jy e;omega⟩
 have y:=Zh n;have fG:M (H w)≠M (H l):=Qk CE.o.lt p.size;have Q:=aG.o _ w3 B.o;clear P hT lN ay p g A j n dB a0 a1 a2 a3 a4 a5 a6 a7 a8 a9 wU yD yE;obtain⟨a0,a1,a2,a3,a4,a5,a6,a7,a8,a9,wU,yD,yE⟩:=hg.vV;go_wp2_with fail;refine Q.mono ?_;rintro e w4 ⟨o,rfl,ho,gH,C⟩;obtain⟨b0,b1,b2,b3,b4,b5,b6,b7,b8,b9,aQ,aS,aT⟩:=awP C a0 a1 a2 a3 a4 a5 a6 a7 a8 a9 wU yD yE;obtain⟨D,HO,aM⟩:=lX C ho gH;obtain⟨oa,oc,ox⟩:=o;simp only[aA.val]at*;clear Q aK C ho gH hg a0 a1 a2 a3 a4 a5 a6 a7 a8 a9 wU yD yE;by_cases hn:0<N ox
 .have HR:=Zh (m.o.trans (Zd (by rw[<-HO.o];exact hn)));clear m;go_wp2_with fail;refine wHk w4 (λb=>b≠M (H l)) λi=>?_
  refine wK4 0 i ?_;refine wK1 4 i ?_;refine wR 5 λK d=>?_;go_simp;refine Jg (Df.o _ _ ⟨oa,oc,ox⟩ (B.o.next D.o.drew) (aL.o.aj D.o.drew) HO.o (aM.o.aj ((Za _ _).drew))) ?_;rintro e w5 ⟨r2,rfl,YE,-,-,L⟩;have k:Bw w4 w5:=(Za _ _).drew.trans L;refine oKs d i L λi=>?_;clear d K;refine wR 6 λK d=>?_;go_simp;refine Jg (V6.o _ _ r2 _ (B.o.next (aO D.o k)) YE aI.o) ?_;rintro e w6 ⟨r3,rfl,az,aN,aP,v⟩;refine oKs d i v λi=>?_;clear d K;refine wR 7 λK d=>?_;go_simp;refine oKs d i (fo _ _) λi=>?_;clear d K;refine wR 8 λK d=>?_;have UR:=aO D.o (aO k v);obtain⟨v',w7,aB,aC,aF,KZ,-,xa,xm,xc,rfl⟩:=Em VZ.o UR y.o.size Qa (az.mono λb _ h=>aH.o b h) (ZU (aO D.o k).size aN) aP;have HF:Qm (oC 144 136 Fq w R (Qu (Z xa xm xc)) w7):=⟨_,[(r,_),(r3,_)],rfl,HR.o.symm,aC,(aO y.o UR).trans aF⟩;refine nM Qh _ _ _ Qh (Z (O (aD (M (H l)) 0)) 1 1) (Z (O (aD (M (H w6)) 0)) 1 1) (Z xa xm xc) w7 Qh Qh aB ?_;refine d.o _ _ ((Xl (aO k v)).trans (KZ.mono λb _ hb e=>hb (by injection e with e;exact e.symm))) λi=>?_;clear d K;refine wR 9 λK d=>?_;go_simp;refine d.o _ _ i λi=>?_;clear d K;refine wD ?_;try simp only[pV]
  clear aB aC aF KZ i UR YE az L k v;go_wp2;go_ret;exact HF.o
 .have HF:Qm (oC 144 136 Fq w R (Qu (Z (O (aD (M (H l)) 0)) 1 1)) w4):=⟨_,[(r,_)],rfl,(m.o.trans (Zk (by rw[<-HO.o];exact hn))).symm,VZ.o.aj D.o,aO y.o D.o⟩
  have h0:N ox=0:=X;rw[h0];clear h0 hn m;go_wp2;go_ret;exact HF.o
structure mo(Tl:TypeId)(Fq:Pm)(base:Nat)(w:U)(v:Ql)(os:JK aA):Prop where
 own:w.ownsRow base Tl 1 v (N os) (os.map aA.val)
 each:∀o∈os,gP (Fv Fq v) w o/\N o.xs<=1000
theorem mo.aj{Tl:TypeId}{Fq:Pm}{base:Nat}{w w':U}{v:Ql}{os:JK aA}(h:mo Tl Fq base w v os)(hb:Bw w w'):mo Tl Fq base w' v os:=
 ⟨Ja h.own hb,λo a=>⟨(h.each o a).1.aj hb,(h.each o a).2⟩⟩
theorem gP.Ej(h:gP (Fv Fq v) w o)(hk:aB (λb=>v.ownBlock≠O b) w w')(jl:v'.ownBlock=v.ownBlock∨∃g,v'.ownBlock=O g/\M (H w)<=g):gP (Fv Fq v') w' o:=by
 have f:=h.mono (G:=λb=>Fv Fq v b/\Fv Fq v' b) (λb d a=>⟨a,a.1,λe=>by
  rcases jl with h|⟨g,h,i⟩
  .exact a.2 (h ▸ e)
  grind⟩)
 exact(f.eG (hk.mono λb _ d=>d.1.2)).mono λ_ _ h=>h.2
def mo.push(h:mo Tl Fq base w v os)(ho:gP (Fv Fq v) w o)(hl:N o.xs<=1000)(hn:w'.ownsRow base Tl 1 v' (N (os++[o])) ((os++[o]).map aA.val))(hk:aB (λb=>v.ownBlock≠O b) w w')(jl:v'.ownBlock=v.ownBlock∨∃g,v'.ownBlock=O g/\M (H w)<=g):mo Tl Fq base w' v' (os++[o]):=
 ⟨hn,λx a=>by
  rcases Z5.1 a with a|a
  .exact⟨(h.each x a).1.Ej hk jl,(h.each x a).2⟩
  .rw[XH]at a;rw[a];exact⟨ho.Ej hk jl,hl⟩⟩
theorem mo.cells(h:mo Tl Fq base w v os):∃b cap,v=Z b (N os) cap/\N os<=cap/\dC w b (N os) (λi=>(E os i iU).val):=by
 rcases h.own.2 with⟨rfl,h0⟩|⟨g,cap,iw,rfl,-,-,hc,-⟩
 .have:=Zo h0;subst this;exact⟨none,0,rfl,Zb _,λi a=>absurd a Qa⟩
 .refine⟨_,cap,rfl,hc,λi a=>⟨g,0,rfl,?_⟩⟩;rcases XP h.own with⟨e,_⟩|⟨g',pQ,e,_,_,hcc⟩
  .cases e
  grind
def aid{x:IC}{k:Nat}(hk:k<N os):x∈(os.take (k+1)).map aA.xs↔x∈(os.take k).map aA.xs∨x=(E os k iU).xs:=by rw[Jt os iU hk,Q7,Z5];simp
theorem amd(W:U)(base:Nat)(v:Ql)(os:JK aA)(bG:W.ownsRow base 26 1 v (N os) (os.map aA.val))(hl:N os<=1000)(hb:base<=M (H W))(o:aA)(ty:TypeId) :
  ∃d e,(Builtin.append_ #[25,25] ty #[v,Z (O (aD (M (H W)) 0)) 1 1]).run V (W.alloc (Qs #[o.val] 26))=.ok d e/\
   e.ownsRow base 26 1 d (N (os++[o])) ((os++[o]).map aA.val)/\aB (λb=>v.ownBlock≠O b) W e/\(∃a m c,d = Z a m c)/\(d.ownBlock=v.ownBlock∨d.ownBlock=O (M (H W)+1)):=by
 obtain⟨i0,k,f,g,i⟩:=XB Tryz.WL;obtain⟨d,e,l,n,p,q,r⟩:=lg (P:=V) W base 25 ty 26 i0 _ 1 24 underlying25 k f g i rfl Qc v (N os) _ bG hb [o.val] rfl (λu j=>by
  rw[XH]at j;rw[j];rfl) hl Qc
 grind
def adZ(x o:aA)(bx:Nat)(w:U)(hx:x.At w)(ho:o.At w)(hc:Qo w (aD bx 0)=O o.val) :
  Calls V 173 (#[x.val] ++ #[Y (O (aD bx 0))]) w λe k=>e=Qu (.bool (decide (x.xs=o.xs)))/\Bw w k:=by have a:=RZ x.ad o.ad x.cap o.cap x.xs o.xs w hx ho;obtain⟨i,j,b⟩:=x;obtain⟨l,m,f⟩:=o;show Calls V 173 #[Z i (N b) j,Y (O (aD bx 0))] w _;simp only[aA.val]at*;generalize decide (b=f)=D,N b=xl,N f=ol at*;go_enter func173,ntmps173;go_wp2_with fail;refine mR a λn d=>?_;have g:=Zh d;go_wp2;go_ret;exact⟨rfl,g.o⟩
theorem ad5(ao:LM)(cap:Nat)(os:JK aA)(o:aA)(bx:Nat)(w:U)(hos:dC w ao (N os) (λi=>(E os i iU).val))(jl:∀x∈os,x.At w)(ho:o.At w)(hc:Qo w (aD bx 0)=O o.val)(hl:N os<=1000) :
  Calls V 207 #[Z ao (N os) cap,.func (.func 173) #[] #[Y (O (aD bx 0))]] w λe q=>∃r:Int,e=Qu (I J r)/\Qm (0<=r↔o.xs∈os.map aA.xs)/\Bw w q:=by
 have A:=Zh hos;have B:Qm (∀(k:Nat) (y:U),k<N os->Bw w y->Calls V 173 (#[(E os k iU).val] ++ #[Y (O (aD bx 0))]) y λe q=>e=Qu (.bool (decide ((E os k iU).xs=o.xs)))/\Bw y q):=λk y G t=>adZ _ o bx y (Zc t (jl _ Qb)) (Zc t ho) (cB t hc);go_enter func207,ntmps207;go_wp2;go_loopw [8] (λu wr=>∃k:Nat,k<=N os/\u=I J (k:Int)/\Qm (o.xs ∉ (os.take k).map aA.xs)/\Qm (Bw w wr)) (λu _=>N os-(intOf u).toNat)
 case atStart=>exact⟨0,ZR _,rfl,by show _ ∉ _;simp,Za _ _⟩
 case round=>
  obtain⟨k,G,rfl,K,l⟩:=hrel;by_cases m:k<N os
  .obtain⟨S,L,rfl,f⟩:=Q3 (dC.aj l.o A.o) m;have g:=f k m;have a:=B.o k wr m l.o;have n:=Zh (aid (x:=o.xs) m);have v:Qm (E os k iU∈os):=Qb
   generalize E os k iU=x at*;obtain⟨P,Q,z⟩:=x;simp only[aA.val]at*;change Calls V 173 #[Z P (N z) Q,Y (O (aD bx 0))] wr _ at a;by_cases d:z=o.xs
   .rw[Zl d]at a;have p:Qm (o.xs∈os.map aA.xs):=Qb
    clear f d v n;go_wp2_with fail;refine mR a λR b=>?_;have j:=Zh (aO l.o b);clear a b g;go_wp2;go_ret;exact⟨k,rfl,⟨λ_=>p.o,λ_=>X⟩,j.o⟩
   .rw[ZK d]at a;have C:Qm (o.xs ∉ (os.take (k+1)).map aA.xs):=λh=>by
     rcases n.o.1 h with h|h
     .exact K.o h
     .exact d h.symm
    clear f d v n;go_wp2_with fail;refine mR a λR b=>?_;have j:=Zh (aO l.o b);clear a b g;go_wp2;go_roundw
    case rel=>grind
    case measure=>exact XK
  .have D:N os=k:=X
   have p:Qm (o.xs ∉ os.map aA.xs):=by grind
   go_wp2;go_ret;exact⟨-1,rfl,⟨λh=>X,λh=>absurd h p.o⟩,l.o⟩
def ad6(ao:LM)(cap:Nat)(os:JK aA)(o:aA)(bx:Nat)(w:U)(hos:dC w ao (N os) (λi=>(E os i iU).val))(jl:∀x∈os,x.At w)(ho:o.At w)(hc:Qo w (aD bx 0)=O o.val)(hl:N os<=1000) :
  Cb 172 #[Z ao (N os) cap,.func (.func 173) #[] #[Y (O (aD bx 0))]] w (.bool (decide (o.xs∈os.map aA.xs))):=by have b:=ad5 ao cap os o bx w hos jl ho hc hl;go_enter func172,ntmps172;go_wp2_with fail;refine b.mono ?_;rintro e g ⟨r,rfl,f,a⟩;have d:=Zh a;go_wp2;go_ret;exact⟨QZ (by rw[Xa,Zi,Zi];exact f.o),d.o⟩
theorem aie(h:mo 26 Fq base w v os)(hb:base<=M (H w))(o:aA)(ho:gP (Fv Fq v) w o)(Lb:N o.xs<=1000)(hl:N os<=1000) :
  Calls V 133 #[v,o.val] w λe w'=>∃y d,e=Qu y/\mo 26 Fq base w' y d/\d.map aA.xs=lF (os.map aA.xs) o.xs/\N d<=N os+1/\aB (λb=>v.ownBlock≠O b) w w'/\(y.ownBlock=v.ownBlock∨∃g,y.ownBlock=O g/\M (H w)<=g):=by
 obtain⟨l,cap,rfl,nu,lH⟩:=h.cells;obtain⟨w1,dB,C,W⟩:=bI w #[o.val] 26;have B:=ad6 l cap os o (M (H w)) w1 (dC.aj C lH) (λx hx=>Zc C (h.each x hx).1.oO) (Zc C ho.oO) (W.cell 0) hl;obtain⟨P,HO,u,Q⟩:=De h ho C W;by_cases G:o.xs∈os.map aA.xs
 .rw[Zl G]at B;have K:Qm (lF (os.map aA.xs) o.xs=os.map aA.xs):=by show _=_;unfold lF;rw[Zd G]
  obtain⟨j,k,f⟩:=o;simp only[aA.val]at*;go_enter func133,ntmps133;go_wp2_with fail;refine mR B λp i=>?_;have q:=Zh (aO u.o i);go_wp2;go_ret;exact⟨_,os,rfl,P.o.aj q.o,K.o.symm,X,Xl q.o,.inl rfl⟩
 .rw[ZK G]at B;have K:Qm (lF (os.map aA.xs) o.xs=os.map aA.xs++[o.xs]):=by show _=_;unfold lF;rw[Zk G]
  have L:Qm (N os<=1000/\base<=M (H w)/\N o.xs<=1000):=⟨hl,hb,Lb⟩;obtain⟨j,k,f⟩:=o;simp only[aA.val]at*;go_enter func133,ntmps133;go_wp2_with fail;refine mR B λp i=>?_;have a:=aO u.o i;have c0:Qo p (aD (M (H w)) 0)=O (Z j (N f) k):=cB i (Q.o.cell 0);obtain⟨y,D,z,R,A,⟨m,n,zc,rfl⟩,aa⟩:=amd p base (Z l (N os) cap) os (Ja P.o.own a) L.o.1 (ZU L.o.2.1 a.size) ⟨j,k,f⟩ 25;have r:(Value.slice m n zc).ownBlock=(Value.slice l (N os) cap).ownBlock∨∃g,(Value.slice m n zc).ownBlock=O g/\M (H p)<=g:=by grind
  have S:Qm (mo 26 Fq base D (Z m n zc) (os++[⟨j,k,f⟩])/\aB (λb=>(Value.slice l (N os) cap).ownBlock≠O b) w D/\((Value.slice m n zc).ownBlock=(Value.slice l (N os) cap).ownBlock∨∃g,(Value.slice m n zc).ownBlock=O g/\M (H w)<=g)):=⟨(P.o.aj a).push (HO.o.aj a) L.o.2.2 R A r,(Xl a).trans A,by
   rcases r with h|⟨g,h,hg⟩
   .exact .inl h
   .exact .inr ⟨g,h,ZU a.size hg⟩⟩
  change (Builtin.append_ #[25,25] 25 #[Z l (N os) cap,Z (O (aD (M (H p)) 0)) 1 1]).run V (p.alloc (Qs #[Z j (N f) k] 26))=.ok (Z m n zc) D at z;have t:Qm ((os++[(⟨j,k,f⟩:aA)]).map aA.xs=os.map aA.xs++[f]/\N (os++[(⟨j,k,f⟩:aA)])<=N os+1):=⟨Qa,Qa⟩;generalize os++[(⟨j,k,f⟩:aA)]=d at*;go_wp2_with (first|(at_builtin;refine XJ rfl (.tmp 9) (.tmp 11) 25 rfl (Z l (N os) cap) (Z (O (aD (M (H p)) 0)) 1 1) (Z m n zc) D rfl rfl z ?_));go_wp2;go_ret;exact⟨_,d,rfl,S.o.1,t.o.1.trans K.o.symm,t.o.2,S.o.2⟩
