import Derived.Test.YtibkmjbegbjgcaaGreatDoorS10
set_option linter.all false
set_option maxRecDepth 100000
set_option maxHeartbeats 0
namespace Go.Proofs.Zz
open Go.RowKit Go.Shelf Go.Proofs.Tryz
open List renaming length->N,getD->E
open Go.Value renaming slice->Z,int->I,pointer->Y,agg->Qu
open Go.Proofs.Tryz renaming prog->V
open Option renaming some->O,none->Qs
open Go.IntKind renaming i64->J
open Bool renaming true->T
open Go renaming World->U,Value->Qm
open Go.World renaming heap->H,setCell->Qo,cell?->Qp
open _root_.Array renaming size->M
open Go.RowKit renaming Hid->Qn
open Go.Obj renaming cells->Qt
open Go.Ending renaming returned->Qv
variable {P:Program} {ops:Array Oper} {Q:Exit->Act->U->Prop} {a base gb i k l:Nat} {W0 w w' w0:U} {Fq:Qz} {f:ay} {ts:Qy af} {q:ae} {v v':Qm} {Tp Tq:TypeId} {t:aP} {bs:Qy (Nat × aP)} {g:Qy aj} {x:Nat × aP} {A:Nat->Nat} {os:Qy ah}
theorem NR(hd:∀o∈ops,∀c,o.op ≠ .defer c)(hQ:¬LetsOut Q){K K':Act->U->Prop}(hK:∀a w,K a w->K' a w){a:Act}(h:wpOp P ops Q i K a w):wpOpIn (Fence.wide.inRound l) 0 P ops Q i K' a w:=by
 unfold wpOp at h;unfold wpOpIn
 cases ho:ops[i]? with
 |none=>simp_all
 |some o =>
  rw[ho]at h;simp only at*;have d:=Array.mem_of_getElem? ho;by_cases b:Region.wanted o (yielded ops a.tmps)=T
  .rw[Zb b]at*;rcases h with h|⟨_,h⟩
   .unfold Oper.wp at h;unfold Oper.wpIn;refine⟨λ_ _=>trivial,?_⟩;rw[Oper.semAt_plain (Fence.wide.inRound l) _ _ (hd o d)];generalize Sem.run P (execOp a.eval o) w=r at*;unfold Oper.upon at h;unfold Oper.uponIn;split at h
    .simp_all
    .simp_all
    .simp_all
    .refine⟨λh=>absurd h (by simp[Fence.wide,Fence.inRound]),CallsIn.inRound l (ZU.2 (h.mono λe w' f=>?_))⟩
     grind
    .exact⟨λh=>absurd h (by simp[Fence.wide,Fence.inRound]),λc cs _=>let ⟨v,w',r,s⟩:=h c cs;⟨v,w',hK _ _ r,stepsIn_wide.2 s⟩⟩
    .exact h
    simp_all
   simp_all
  .rw[Zg b]at*;exact⟨λ_ _=>trivial,hK _ _ h⟩
def zn{P:Program}{md:Region.Mode}{ops:Array Oper}{Q:Exit->Act->U->Prop}{l:Nat}(hd:∀o∈ops,∀c,o.op ≠ .defer c)(hQ:¬LetsOut Q):∀(fuel:Nat) (listed:Array Bool) (a:Act) (w:U),
  wpAny P md ops Q fuel listed a w->wpAnyIn (Fence.wide.inRound l) 0 P md ops Q fuel listed a w
 |0,_,_,_,h=>h
 |fuel+1,listed,a,w,h=>⟨h.1,λi b=>NR hd hQ (λd w' e=>zn hd hQ fuel _ d w' e) (h.2 i b)⟩
def xy{S:U->Prop}{id:Nat}(hm:P.follows .mixedOrders=T)(hd:Fg ops=T)(hQ:¬LetsOut Q){a:Act}
  (h:wpAnyH P .any ops Q S ops.size (Array.replicate ops.size false) a w.drew):(Code.region id ops T).wpIn (Fence.wide.inRound l) 0 P Q a w:=
 wpIn_region_any hm (zn (pM hd) hQ _ _ _ _ (wpAny_of_held _ _ _ _ h))
def JI(Ez:Env f ts q W0)(hz:Fz Fq W0 w)(s:Int)(h0:0<=s)(h1:s<N q.src.xs) :
  Calls V 99 #[Qu (f.cells ts q),I J s] w (bN 141 Fq w (dN ts q (aB ts q) s)):=by
 obtain⟨v0,D,G,v3,v4,v5,L,P,Q,v9,i,j,k,S,-⟩:=XY f ts q;obtain⟨a,t⟩:=eY (au ts q (ig s) []);have v:iP q a:=by rw[t];exact kH ts q _ _ ⟨(by decide:(1:Int)<=1),(by decide:(1:Int)<=10)⟩ (λ_=>⟨h0,h1⟩) (Jc _) (λb A=>by cases A)
 have W:a.d.sources<18446744073709551616:=Zy v.src (ZA (n:=2) X Ez.ok.small);have si:Qn (∀x,Bw w x->Calls V 76 #[Qu #[v0,D,G,v3,v4,v5,L,P,Q,v9,i,j,k],Qu #[I J 1,I J 0,I J 0,I J s,Z Qs 0 0,I J 0,Z Qs 0 0],Z Qs 0 0] x (bN 141 Fq x a)):=λx B=>by rw[<-S,t];exact D8 Ez (hz.next B) s h0 h1
 have aa:Qn (∀x,Bw w x->Cb 148 #[Qu #[v0,D,G,v3,v4,v5,L,P,Q,v9,i,j,k],I .u64 (a.d.sources:Int)] x (I .u64 ((bu (aB ts q) a.d.sources:Nat):Int))):=λx B=>by rw[<-S];exact yY f ts q _ x Ez.ok ((Ez.at' hz).below B) W
 have ag:Qn (∀x r,Bw w x->aF 141 Fq x r a->r<M (H x)->Calls V 77 #[Qu #[v0,D,G,v3,v4,v5,L,P,Q,v9,i,j,k],Y (O (aD r 0)),I .u64 ((bu (aB ts q) a.d.sources:Nat):Int)] x λe w'=>∃m,e=Qv (Y (O (aD m 0)))/\aF 141 Fq w' m (bJ ts q a (bu (aB ts q) a.d.sources))/\(m = r∨M (H x)<=m)/\m<M (H w')/\Bw x w'):=λx r B hr hl=>by rw[<-S];exact wP Ez (hz.next B) r a hr v _ (by have:=gD (aB ts q) a.d.sources (N (aB ts q));rw[XC]at this;unfold bu;rw[XC];exact this) hl
 have hR:dN ts q (aB ts q) s=bJ ts q a (bu (aB ts q) a.d.sources):=by rw[t];rfl
 rw[hR,S];generalize bJ ts q a (bu (aB ts q) a.d.sources)=R at*;generalize bu (aB ts q) a.d.sources=wi at*;obtain⟨w1,aK,z,ak⟩:=bC w #[v0,D,G,v3,v4,v5,L,P,Q,v9,i,j,k] 82;obtain⟨a0,a1,a2,a3,a4,a5,a6,a7,a8,a9,jq,jP,av⟩:=ak.k13;have y:=Zh z;have ah:=si.o w1 z;go_enter func99,ntmps99;go_wp2_with fail;refine ah.mono ?_;rintro e w2 ⟨r,rfl,hT,ax,aA,u⟩;obtain⟨b0,b1,b2,b3,b4,b5,b6,b7⟩:=kS u a0 a1 a2 a3 a4 a5 a6 a7;obtain⟨b8,b9,aL,aM,aN⟩:=jW u a8 a9 jq jP av;obtain⟨p,hP,yh⟩:=hT.kI;have p1:Qp w2 (aD r 1)=O (I .u64 (a.d.sources:Int)):=by have:=hP.c1;have e:p.sources=a.d.sources:=congrArg bW.sources yh;rw[e]at this;exact this
 obtain⟨HT,aC,aG,l⟩:=sU hT ax aA (az y.o u);generalize a.d.sources=sr at*;go_wp2_with fail;refine wH w2 λg=>?_;refine wA8 0 g ?_;refine wR 8 λK C=>?_;go_simp;refine XX (aa.o _ (az l.o g)) ?_;rintro e w3 ⟨rfl,A⟩;refine oT C g A λg=>?_;refine wR 9 λK C=>?_;go_simp;refine XX (ag.o _ r (az l.o g) (HT.o.below g) (Zy aG.o g.size)) ?_;rintro e w4 ⟨m,rfl,aH,aI,aJ,A⟩;have ai:=g.size;refine oT C g A λg=>?_;refine wR 10 λK C=>?_;go_simp;refine C.o _ _ g λg=>?_;refine wD ?_;try simp only[pU]
 have aj:M (H w)<=m:=by
  rcases aI with h|h
  .rw[h];exact ZN y.o.size aC.o
  .exact ZN l.o.size (ZN ai h)
 have HP:Qn (bN 141 Fq w R (Qv (Y (O (aD m 0)))) w4):=⟨m,rfl,aH,aj,aJ,az l.o g⟩;go_wp2;go_ret;exact HP.o
theorem Sm(Ez:Env f ts q W0)(hz:Fz Fq W0 w)(a:Nat)(t:aP)(ht:aF 141 Fq w a t)(hto:iP q t) :
  Calls V 180 #[Qu (f.cells ts q),Y (O (aD a 0))] w (bN 141 Fq w (fI ts q t)):=by
 obtain⟨v0,u,v,v3,v4,v5,y,v7,v8,v9,D,G,L,bZ,ak,av,ax,aA,aB,aC,aG,-⟩:=XY f ts q;have uO:q.cells=#[v0,u,v,v3,v4,v5,y]:=by rw[ak,av,ax,aA,aB,aC,aG];rfl
 clear ak av ax aA aB aC aG;obtain⟨K,j⟩:=eX (bY q t.d.order);have aN:=Bg q t.d.order;rw[j]at aN;obtain⟨z,l⟩:=eX (au ts q (dC K) [t]);have n:iP q z:=by rw[<-l];exact Bh ts X X hto
 obtain⟨T2,C9⟩:=eX (au ts q (dC 10) [z]);have hR:fI ts q t=if gX q K t.d.order=T then z else T2:=by unfold fI;simp only;rw[j,l,C9]
 obtain⟨R,P⟩:=eY (fI ts q t);rw[<-P];have aa:Qn (R=if gX q K t.d.order=T then z else T2):=by rw[<-hR];exact P
 clear P;obtain⟨p,hP,yh⟩:=ht.kI;have k:p.order.xs=t.d.order:=congrArg bW.order yh;have qO:Qn (∀x b,Bw w x->Qp x (aD b 0)=O (Y (O (aD a 0)))->Calls V 76 #[Qu #[v0,u,v,v3,v4,v5,y,v7,v8,v9,D,G,L],Qu #[I J K,I J 0,I J 0,I J 0,Z Qs 0 0,I J 0,Z Qs 0 0],Z (O (aD b 0)) 1 1] x (bN 141 Fq x z)):=λx b i hc=>by rw[<-bZ,<-l];exact ry Ez (hz.next i) ⟨K,0,0,0,eG,0,eG⟩ ⟨gL x,nE.nil _ _,λ_=>rfl,gL x,nE.nil _ _,λ_=>rfl,Za _,ZB _,ZB _⟩ a b t (ht.below i) hto hc (Sl (by show 6<=K;omega)) (by show 2<=K;omega) (by show K<=10;omega) (Jc _)
 have aO:Qn (∀x b r,Bw w x->aF 141 Fq x r z->Qp x (aD b 0)=O (Y (O (aD r 0)))->Calls V 76 #[Qu #[v0,u,v,v3,v4,v5,y,v7,v8,v9,D,G,L],Qu #[I J 10,I J 0,I J 0,I J 0,Z Qs 0 0,I J 0,Z Qs 0 0],Z (O (aD b 0)) 1 1] x (bN 141 Fq x T2)):=λx b r i hr hc=>by rw[<-bZ,<-C9];exact ry Ez (hz.next i) ⟨10,0,0,0,eG,0,eG⟩ ⟨gL x,nE.nil _ _,λ_=>rfl,gL x,nE.nil _ _,λ_=>rfl,Za _,ZB _,ZB _⟩ r b z hr n hc rfl (by decide:(2:Int)<=10) (by decide:(10:Int)<=10) (Jc _)
 have aQ:Qn (∀x,Bw w x->Cb 203 #[Qu #[v0,u,v,v3,v4,v5,y],p.order.val] x (I J K)):=λx i=>by have:=I9 q p.order x ((Ez.V4 hz).below i).at' (Q8 i hP.ok.order) hP.ok.cap;grind
 have aR:Qn (∀x,Bw w x->Cb 110 #[Qu #[v0,u,v,v3,v4,v5,y],I J K,p.order.val] x (.bool (gX q K t.d.order))):=λx i=>by
  have:=vS q K p.order.ad p.order.cap p.order.xs x ((Ez.at' hz).query.below i) ⟨λh9=>Ez.ord (by
   cases hg:q.group with
   |false=>rfl
   |true =>
    rw[<-j]at h9;unfold bY at h9;grind),Qk Ez.few⟩ (Q8 i hP.ok.order) hP.ok.cap
  rw[uO,k]at this;rw[<-k]at this;rw[<-k];exact this
 have p3:=hP.c3;rw[bZ];clear bZ uO hR l C9 n hP yh k j ht hto Ez hz;generalize gX q K t.d.order=EB,p.order=po at*;obtain⟨oa,oc,ox⟩:=po;simp only[ah.val]at*;obtain⟨w1,aV,Q,aH⟩:=bC w #[v0,u,v,v3,v4,v5,y,v7,v8,v9,D,G,L] 82;obtain⟨a0,a1,a2,a3,a4,a5,a6,a7,a8,a9,jq,jP,m⟩:=aH.k13;have ag:=Zh Q;have q3:=cB Q p3;clear Q aH p3;go_enter func180,ntmps180;go_wp2_with fail;clear aV;refine wH w1 λg=>?_;refine wt 0 (Y (O (aD (M (H w)) 0))) g ?_;refine wT 1 (Qu #[v0,u,v,v3,v4,v5,y]) g (λx i=>?_) ?_
 .have e0:=Vl i a0 a1 a2 a3 a4 a5 a6;go_simp
 refine wt 2 (Y (O (aD a 0))) g ?_;refine wt 3 (Y (O (aD a 0))) g ?_;refine wt 4 (Y (O (aD a 0))) g ?_;refine wt 5 (Y (O (aD a 3))) g ?_;refine zC 6 (Z oa (N ox) oc) g q3 ?_;refine wR 7 λK j=>?_;go_simp;refine XX (aQ.o _ (az ag.o g)) ?_;rintro e w2 ⟨rfl,hb⟩;refine oT j g hb λg=>?_;clear j K;refine wR 8 λK j=>?_;go_simp;refine j.o _ _ g λg=>?_;clear j K;refine wD ?_;try simp only[pU]
 have A:=Zh (az ag.o g);obtain⟨aW,b0,b1,b2,b3,b4,b5,b6⟩:=kS g q3 a0 a1 a2 a3 a4 a5 a6;obtain⟨b7,b8,b9,aI,aJ,aK⟩:=PS g a7 a8 a9 jq jP m;clear a0 a1 a2 a3 a4 a5 a6 a7 a8 a9 jq jP m;obtain⟨w3,aL⟩:=eX (w2.alloc (Qt #[Y (O (aD a 0))] 93));have ai:Bw w2 w3:=by rw[<-aL];exact cZ _ _
 have aT:=qO.o w3 (M (H w2)) (az A.o ai) (by rw[<-aL];simp);have aj:=Zh ai;go_wp2_with fail;refine aT.mono ?_;rintro e w4 ⟨r,rfl,hT,S,W,aX⟩;have zK:=az aj.o aX;obtain⟨q3,a0,a1,a2,a3,a4,a5,a6⟩:=kS zK aW b0 b1 b2 b3 b4 b5 b6;obtain⟨a7,a8,a9,jq,jP,m⟩:=PS zK b7 b8 b9 aI aJ aK;obtain⟨rf,HT,aY,aZ⟩:=sU (az A.o zK) hT (ZN A.o.size (ZN aj.o.size S)) W;go_wp2_with fail;refine wH w4 λg=>?_;refine wt 0 (Y (O (aD (M (H w)) 0))) g ?_;refine wT 1 (Qu #[v0,u,v,v3,v4,v5,y]) g (λx i=>?_) ?_
 .have e0:=Vl i a0 a1 a2 a3 a4 a5 a6;go_simp
 refine wt 2 (I J K) g ?_;refine wt 3 (Y (O (aD a 0))) g ?_;refine wt 4 (Y (O (aD a 0))) g ?_;refine wt 5 (Y (O (aD a 0))) g ?_;refine wt 6 (Y (O (aD a 3))) g ?_;refine zC 7 (Z oa (N ox) oc) g q3 ?_;refine wR 8 λK j=>?_;go_simp;refine XX (aR.o _ (az rf.o g)) ?_;rintro e w5 ⟨rfl,hb⟩;refine oT j g hb λg=>?_;refine wD ?_;try simp only[pU]
 have ko:=Zh (az rf.o g);obtain⟨b0,b1,b2,b3,b4,b5,b6,b7⟩:=kS g a0 a1 a2 a3 a4 a5 a6 a7;obtain⟨b8,b9,aI,aJ,aK⟩:=jW g a8 a9 jq jP m;obtain⟨aM,bf⟩:=aS (HT.o.below g) (Zy aZ.o g.size)
 cases EB with
 |true =>
  go_wp2;go_ret;have B:R=z:=aa.o;rw[B];exact⟨r,rfl,aM.o,aY.o,bf.o,ko.o⟩
 |false =>
  obtain⟨w6,oV⟩:=eX (w5.alloc (Qt #[Y (O (aD r 0))] 93));have C:Bw w5 w6:=by rw[<-oV];exact cZ _ _
  have aU:=aO.o w6 (M (H w5)) r (az ko.o C) (aM.o.below C) (by rw[<-oV];simp);have zg:=Zh (az ko.o C);go_wp2_with fail;refine aU.mono ?_;rintro e w7 ⟨r',rfl,hT,S,W,qy⟩;have HP:Qn (bN 141 Fq w T2 (Qv (Y (O (aD r' 0)))) w7):=⟨r',rfl,hT,ZN zg.o.size S,W,az zg.o qy⟩;go_wp2;go_ret;have B:R=T2:=aa.o;rw[B];exact HP.o
def Fv(Fq:Qz)(v:Qm):Qz:=λb=>Fq b/\v.ownBlock≠O b
def Fz.own(h:Fz Fq W0 w)(hv:∀g,v.ownBlock=O g->M (H W0)<=g/\g<M (H w)):Fz (Fv Fq v) W0 w:=
 ⟨h.below,λb a=>⟨h.low b a,λe=>Ql ((hv b e).1) a.lt⟩,λb a=>⟨h.high b a,λe=>Qk ((hv b e).2)⟩⟩
def aF.own(h:aF Tq Fq w0 a t)(hb:Bw w0 w)(hv:∀g,v.ownBlock=O g->M (H w0)<=g):aF Tq (Fv Fq v) w a t:=
 (h.mono (G:=Fv Fq v) (λb hb d=>⟨d,λe=>Qk (hv b e)⟩)).below hb
def aF.JJ(h:aF Tq (Fv Fq v) w a t):aF Tq Fq w a t:=h.mono λ_ _ h=>h.1
structure bV(Tq Tp:TypeId)(Fq:Qz)(base:Nat)(w:U)(v:Qm)(bs:Qy (Nat × aP)):Prop where
 own:w.ownsRow base Tp 1 v (N bs) ((bs.map Prod.fst).map λx=>Value.pointer (O (aD x 0)))
 tree:∀x∈bs,aF Tq (Fv Fq v) w x.1 x.2/\base<=x.1/\x.1<M (H w)
 rise:(bs.map Prod.fst).Pairwise (· < ·)
def jk(Tq Tp:TypeId)(Fq:Qz)(w:U)(l:Qy aP)(e:Ending)(w':U):Prop:=
 ∃v bs,e=Qv v/\bs.map Prod.snd=l/\bV Tq Tp Fq (M (H w)) w' v bs/\Bw w w'
def bV.one{b:Nat}(hb:base<=b)(hg:GB w b Tp #[Y (O (aD a 0))])(ht:aF Tq Fq w0 a t)(hw:Bw w0 w)(h0:M (H w0)<=b)(ha:base<=a)(hl:a<M (H w)):bV Tq Tp Fq base w (Z (O (aD b 0)) 1 1) [(a,t)]:=
 ⟨⟨rfl,.inr ⟨b,1,#[Y (O (aD a 0))],rfl,hb,hg,Za _,Qh,rfl,rfl⟩⟩,λx d=>by rw[Xj]at d;rw[d];exact⟨ht.own hw (λg e=>by cases e;exact h0),ha,hl⟩,List.pairwise_singleton _ _⟩
def bV.below{Tq Tp:TypeId}{Fq:Qz}{base:Nat}{w w':U}{v:Qm}{bs:Qy (Nat × aP)}(h:bV Tq Tp Fq base w v bs)(hb:Bw w w'):bV Tq Tp Fq base w' v bs:=
 ⟨Xf h.own (ZP (s:=λb=>b<M (H w)) hb (λb _ h=>h)) (λg d=>(Xg h.own d).2),λx a=>⟨(h.tree x a).1.below hb,(h.tree x a).2.1,Zy (h.tree x a).2.2 hb.size⟩,h.rise⟩
theorem aF.pushed(h:aF Tq (Fv Fq v) w a t)(hk:Kept (λb=>v.ownBlock≠O b) w w')(hat:v'.ownBlock=v.ownBlock∨∃g,v'.ownBlock=O g/\M (H w)<=g):aF Tq (Fv Fq v') w' a t:=by
 have i:=h.mono (G:=λb=>Fv Fq v b/\Fv Fq v' b) (λb f d=>⟨d,d.1,λe=>by
  rcases hat with h|⟨g,h,j⟩
  .exact d.2 (h ▸ e)
  grind⟩)
 exact(i.aV (hk.mono λb _ f=>f.1.2)).mono λ_ _ h=>h.2
theorem bV.push(h:bV Tq Tp Fq base w0 v bs)(hb:Bw w0 w)(ht:aF Tq (Fv Fq v) w a t)(ha:M (H w0)<=a)(hl:a<M (H w))(hbase:base<=M (H w0))
  (ho:w'.ownsRow base Tp 1 v' (N (bs.map Prod.fst++[a])) ((bs.map Prod.fst++[a]).map λx=>Value.pointer (O (aD x 0)))) (hk:Kept (λb=>v.ownBlock≠O b) w w') (hat:v'.ownBlock=v.ownBlock∨∃g,v'.ownBlock=O g/\M (H w)<=g):bV Tq Tp Fq base w' v' (bs++[(a,t)]):=by
 refine⟨?_,λx d=>?_,?_⟩
 .grind
 .rcases Xk.1 d with d|d
  .have:=h.tree x d;exact⟨(this.1.below hb).pushed hk hat,this.2.1,Zy this.2.2 (ZN hb.size hk.size)⟩
  .rw[Xj]at d;rw[d];exact⟨ht.pushed hk hat,ZN hbase ha,Zy hl hk.size⟩
 .rw[Q5,List.pairwise_append];refine⟨h.rise,List.pairwise_singleton _ _,λx d y e=>?_⟩;obtain⟨z,hz,rfl⟩:=ZL.1 d;rw[List.map_singleton,Xj]at e;rw[e];exact Zy (h.tree z hz).2.2 ha
theorem bV.len(h:bV Tq Tp Fq base w v bs):N (bs.map Prod.fst)=N bs:=ZH _
theorem wS(a:Nat)(t:aP)(ht:aF 141 Fq w a t)(bo:PN)(bc:Nat)(bs:Qy (Nat × aP))(hp:dh w bo (bs.map Prod.fst))(hbs:∀x∈bs,aF 141 Fq w x.1 x.2)(hl:N bs<=1000) :
  Calls V 144 #[Y (O (aD a 0)),Z bo (N bs) bc] w λe w'=>∃r,e=Qv (Y (O (aD r 0)))/\aF 141 Fq w' r (dV t (bs.map Prod.snd))/\Bw w w':=by
 have RQ:=Zh hp;have vC:Qn (N (bs.map Prod.fst)=N bs):=ZH _;have D:Qn (∀k,k<N bs->dV t ((bs.map Prod.snd).take (k+1))=lH (dV t ((bs.map Prod.snd).take k)) (E (bs.map Prod.snd) k mP)):=λk S=>by rw[Jf _ mP (by rw[ZH];exact S)];unfold dV;rw[ZM];rfl
 have U3:Qn (∀k,k<N bs->aF 141 Fq w (E (bs.map Prod.fst) k 0) (E (bs.map Prod.snd) k mP)):=λk S=>by grind
 have HE:=Zh (by  rw[XQ Qa]:dV t ((bs.map Prod.snd).take (N bs))=dV t (bs.map Prod.snd))
 have G:Qn (aF 141 Fq w a (dV t ((bs.map Prod.snd).take 0))):=ht;generalize bs.map Prod.fst=bf,dV t (bs.map Prod.snd)=R at*;obtain⟨f,j⟩:=eY (λk=>dV t ((bs.map Prod.snd).take k):Nat->aP);obtain⟨q,U2⟩:=eY (λk=>E (bs.map Prod.snd) k mP:Nat->aP);have Nn:Qn (∀k,k<N bs->f (k+1)=lH (f k) (q k)):=by rw[j,U2];exact D.o
 have n:Qn (∀k,k<N bs->aF 141 Fq w (E bf k 0) (q k)):=by rw[U2];exact U3.o
 have K:Qn (f (N bs)=R):=by rw[j];exact HE.o
 have L:Qn (aF 141 Fq w a (f 0)):=by rw[j];exact G.o
 generalize N bs=bl at*;go_enter func144,ntmps144;go_wp2;go_loopw [5,11] (λpv iv wr=>∃k r:Nat,k<=bl/\iv=I J (k:Int)/\pv=Y (O (aD r 0))/\Qn (aF 141 Fq w r (f k))/\Qn (Bw w wr)) (λ_ iv _=>bl-(intOf iv).toNat)
 case atStart=>exact⟨0,a,ZB _,rfl,rfl,L.o,Q9 _ _⟩
 case round=>
  obtain⟨k,r,S,rfl,rfl,A,m⟩:=hrel;by_cases b:k<bl
  .obtain⟨bb,M5,rfl,u⟩:=dh.get (RQ.o.below m.o) (i:=k) (by rw[vC.o];exact b);have P:=u k (by rw[vC.o];exact b);obtain⟨p,hP,yh⟩:=A.o.kI;obtain⟨B,l,v⟩:=(n.o k b).kI;obtain⟨x,W⟩:=eY (E bf k 0)
   rw[<-W]at P l;have HX:Qn (aF 141 Fq w x (q k)):=by rw[W];exact n.o k b
   obtain⟨c1,c2⟩:=jf m.o hP.c5 l.c5;have hS:=Nn.o k b;have e1:p.cost=(f k).d.cost:=congrArg bW.cost yh;have e2:B.cost=(q k).d.cost:=congrArg bW.cost v;have z:Qn (f (k+1)=if B.cost<p.cost then q k else f k):=by show _=_;rw[hS,e1,e2];rfl
   generalize p.cost=cr,B.cost=cx at*;clear u W hP l yh v hS e1 e2 p B;obtain⟨wq,aa⟩:=eY (wr);subst aa;go_wp2_with fail;refine Zd ?_;refine qA4 ?_;refine qC (I .u64 (cx:Int)) c2 ?_;refine qA4 ?_;refine qC (I .u64 (cr:Int)) c1 ?_;refine qS (.bool (decide ((cx:Int)<(cr:Int)))) ?_;refine XZ ?_;intro w2 y;have ae:=Zh (m.o.trans (y.mono m.o.size));clear y;by_cases C:cx<cr
   .have g:decide ((cx:Int)<(cr:Int))=true:=Zi X;have HN:Qn (aF 141 Fq w x (f (k+1))):=by rw[z.o,Zb C];exact HX.o
    rw[g];clear C z;go_wp2;go_roundw
    case rel=>grind
    case measure=>exact XK
   .have g:decide ((cx:Int)<(cr:Int))=false:=Zr X;have HN:Qn (aF 141 Fq w r (f (k+1))):=by rw[z.o,Zg C];exact A.o
    rw[g];clear C z;go_wp2;go_roundw
    case rel=>grind
    case measure=>exact XK
  .have Q:bl=k:=X
   subst Q;rw[K.o]at A;go_wp2;go_ret;exact⟨r,rfl,A.o.below m.o,m.o⟩
def JL(Ez:Env f ts q W0)(hz:Fz Fq W0 w)(a:Nat)(t:aP)(ht:aF 141 Fq w a t)(hto:iP q t) :
  Calls V 145 #[Qu (f.cells ts q),Y (O (aD a 0))] w (jk 141 93 Fq w (dS ts q t)):=by
 obtain⟨v0,W,v2,v3,v4,v5,v6,v7,v8,v9,n,p,v,bZ,aB,aC,aG,k,aH,aJ,aK,-⟩:=XY f ts q;have uO:q.cells=#[v0,W,v2,v3,v4,v5,v6]:=by rw[aB,aC,aG,k,aH,aJ,aK];rfl
 clear aB aC aG k aH aJ aK;have Np:Qn (∀(G:Qz) x r u,Fz G W0 x->aF 141 G x r u->iP q u->Calls V 180 #[Qu #[v0,W,v2,v3,v4,v5,v6,v7,v8,v9,n,p,v],Y (O (aD r 0))] x (bN 141 G x (fI ts q u))):=λG x r u i hr hu=>by rw[<-bZ];exact Sm Ez i r u hr hu
 have au:Qn (∀(G:Qz) x,Fz G W0 x->Calls V 78 #[Qu #[v0,W,v2,v3,v4,v5,v6]] x (Bc G x (aI q))):=λG x i=>by rw[<-uO];exact wL Ez i
 have vB:Qn (∀(G:Qz) x (o:ah),Fz G W0 x->aF 141 G x a t->o.xs=aI q->IntsIn G x o->Calls V 181 #[Qu #[v0,W,v2,v3,v4,v5,v6,v7,v8,v9,n,p,v],Y (O (aD a 0)),o.val] x (bN 141 G x (bK ts q t (aI q)))):=λG x o i ht C hi=>by rw[<-bZ,<-C];exact Be Ez i a t ht hto o hi.at' hi.inf hi.nil hi.cap (by rw[C];have:=Ez.V3;omega)
 have aT:=Zh hto;have JD:Qn (iP q (bK ts q t (aI q))):=uF _ hto;have vU:Qn (dS ts q t=if 0<N (aI q) then [fI ts q t,fI ts q (bK ts q t (aI q))] else [fI ts q t]):=rfl;obtain⟨Ph,HZ⟩:=aS ht hz;rw[bZ];clear bZ uO ht hto Ez hz;generalize dS ts q t=R at*;obtain⟨T1,aL⟩:=eX (fI ts q t);obtain⟨T2,C9⟩:=eX (bK ts q t (aI q));obtain⟨T3,FP⟩:=eX (fI ts q T2);rw[aL,C9,FP]at vU;rw[C9]at vB JD;generalize aI q=EO at*;obtain⟨w1,bJ,aa,aM⟩:=bC w #[v0,W,v2,v3,v4,v5,v6,v7,v8,v9,n,p,v] 82;obtain⟨a0,a1,a2,a3,a4,a5,a6,a7,a8,a9,jq,jP,A⟩:=aM.k13;have m:=Zh aa;have av:=Np.o Fq w1 a t (HZ.o.next aa) (Ph.o.below aa) aT.o;rw[aL]at av;obtain⟨bf,aN⟩:=aS FP aM.lt;go_enter func145,ntmps145;go_wp2_with fail;refine av.mono ?_;rintro e y ⟨r,rfl,hT,bg,bn,ag⟩;obtain⟨w3,aO⟩:=eX (y.alloc (Qt #[Y (O (aD r 0))] 93));have L:Bw y w3:=by rw[<-aO];exact cZ _ _
 have Da:=az ag L;obtain⟨ai,aj⟩:=aS (bV.one (ZN m.o.size ag.size) (by rw[<-aO];exact lT _ _) hT L (Za _) (ZN m.o.size bg) (Zy bn L.size)) (az m.o Da);obtain⟨b0,b1,b2,b3,b4,b5,b6,b7⟩:=kS Da a0 a1 a2 a3 a4 a5 a6 a7;obtain⟨b8,b9,bq,bu,bz⟩:=jW Da a8 a9 jq jP A;have B:=Zh ag.size;have k:∀g,(Value.slice (O (aD (M (H y)) 0)) 1 1).ownBlock=O g->M (H w)<=g/\g<M (H w3):=λg e=>Xg ai.o.own e;obtain⟨G,hG⟩:=eY (Fv Fq (Z (O (aD (M (H y)) 0)) 1 1));have P:Qn (Fz G W0 w3):=by rw[hG];exact(HZ.o.next aj.o).own (λg e=>⟨ZN HZ.o.below.size (k g e).1,(k g e).2⟩)
 have ax:Qn (aF 141 G w3 a t):=by rw[hG];exact Ph.o.own aj.o (λg e=>(k g e).1)
 have ze:=Zh hG;have d:M (H w)≠M (H y):=by have:=m.o.size;have:=aN.o;have:=B.o;omega
 have aU:=au.o G w3 P.o;go_wp2_with fail;refine aU.mono ?_;rintro e w4 ⟨o,rfl,C,aQ,j⟩;obtain⟨a0,a1,a2,a3,a4,a5,a6,a7⟩:=kS j b0 b1 b2 b3 b4 b5 b6 b7;obtain⟨a8,a9,jq,jP,A⟩:=jW j b8 b9 bq bu bz;obtain⟨ak,rf,HO,U1,aR,bA⟩:=aaZ (ai.o.below j) (az aj.o j) C aQ (P.o.next j) (ax.o.below j);clear j aQ ai P ax au;by_cases hn:0<N EO
 .have Q:=Zh (by  rw[vU.o,Zb hn]:R=[T1,T3])
  have bH:decide (0<N o.xs)=true:=Zi (by rw[C];exact hn);have bI:0<N o.xs:=by rw[C];exact hn
  obtain⟨oa,oc,ox⟩:=o;simp only[ah.val]at*;clear C hn;go_wp2_with fail;refine Zo (S:=λx=>Kept (λb=>b≠M (H y)) w4 x) Qd (ZP ((Q9 (M (H w4)) w4).drew) (λ_ hl _=>hl)) (λl=>?_);refine wt 0 (Z (O (aD (M (H y)) 0)) 1 1) l ?_;refine wT 1 (Qu #[v0,W,v2,v3,v4,v5,v6,v7,v8,v9,n,p,v]) l (λx i=>?_) ?_
  .have e0:=Xa a0 i d;have e1:=Xa a1 i d;have e2:=Xa a2 i d;have e3:=Xa a3 i d;have e4:=Xa a4 i d;have e5:=Xa a5 i d;have e6:=Xa a6 i d;have e7:=Xa a7 i d;have e8:=Xa a8 i d;have e9:=Xa a9 i d;have aV:=Xa jq i d;have aW:=Xa jP i d;have aX:=Xa A i d;go_simp
  refine wT 2 (Qu #[v0,W,v2,v3,v4,v5,v6,v7,v8,v9,n,p,v]) l (λx i=>?_) ?_
  .have e0:=Xa a0 i d;have e1:=Xa a1 i d;have e2:=Xa a2 i d;have e3:=Xa a3 i d;have e4:=Xa a4 i d;have e5:=Xa a5 i d;have e6:=Xa a6 i d;have e7:=Xa a7 i d;have e8:=Xa a8 i d;have e9:=Xa a9 i d;have aV:=Xa jq i d;have aW:=Xa jP i d;have aX:=Xa A i d;go_simp
  refine wt 3 (Y (O (aD a 0))) l ?_;refine wt 4 (Z oa (N ox) oc) l ?_;refine wR 5 λK z=>?_;go_simp;refine XX (vB.o G _ ⟨oa,oc,ox⟩ (aR.o.next ((Q9 _ _).drew)) (bA.o.below ((Q9 _ _).drew)) HO.o (U1.o.below ((Q9 _ _).drew))) ?_;rintro e w5 ⟨r2,rfl,C9,bL,bM,bB⟩;have hd:=(Q9 (M (H w4)) w4).drew;have Wj:=hd.trans (bB.mono hd.size);refine z.o _ _ (ZP Wj (λb D _=>D)) (λl=>?_);clear z K;refine wR 6 λK z=>?_;go_simp;refine XX (Np.o G _ r2 T2 (aR.o.next Wj) C9 JD.o) ?_;rintro e w6 ⟨r3,rfl,FP,bD,bE,bF⟩;have FQ:=Wj.trans (bF.mono Wj.size);rw[bf.o]at FP;refine z.o _ _ (ZP FQ (λb D _=>D)) (λl=>?_);refine wR 7 λK z=>?_;go_simp;refine z.o _ _ (l.trans (ZT _ _)) (λl=>?_);refine wR 8 λK z=>?_;obtain⟨v',w7,Ed,Sn,lZ,⟨xa,xm,xc,rfl⟩,bG⟩:=wI w6 (M (H w)) (Z (O (aD (M (H y)) 0)) 1 1) [r] (ak.o.below FQ).own Qa (ZN rf.o.size FQ.size) r3 139;have aY:=ZN Wj.size bD;have aZ:=bV.push ak.o FQ (ze.o ▸ FP) aY bE rf.o.size Sn lZ (bG.imp id (λe=>⟨_,e,X⟩));have aA:Kept (λb=>b≠M (H y)) w4 w7:=(ZP FQ (λb D _=>D)).trans (lZ.mono λb _ D e=>D (by injection e with e;exact e.symm));refine step_append Qi _ _ _ Qi (Z (O (aD (M (H y)) 0)) 1 1) (Z (O (aD (M (H w6)) 0)) 1 1) (Z xa xm xc) w7 Qi Qi Ed ?_;refine z.o _ _ aA λl=>?_;refine wR 9 λK z=>?_;go_simp;refine z.o _ _ l λl=>?_;refine wD ?_;try simp only[pU]
  have HF:Qn (jk 141 93 Fq w R (Qv (Z xa xm xc)) w7):=⟨_,[(r,T1),(r3,T3)],rfl,Q.o.symm,aZ,rf.o.trans (aA.below rf.o.size (λb D=>Ql m.o.size B.o))⟩;go_wp2;go_ret;exact HF.o
 .have Q:=Zh (by  rw[vU.o,Zg hn]:R=[T1])
  have h0:N o.xs=0:=by rw[C];omega
  obtain⟨oa,oc,ox⟩:=o;simp only[ah.val]at*;rw[h0];go_wp2;go_ret;exact⟨_,[(r,T1)],rfl,Q.o.symm,ak.o,rf.o⟩
def wW(g:Qy aj)(hk:k<N g):dA (g.take (k+1))=lV (dA (g.take k)) (E g k nD):=by unfold dA;exact gF lV [] g nD hk
theorem Bi(h:x∈dA (g.take k)):∃p∈g,p.2=O x:=by
 rcases ll _ [] x h with h|⟨p,a,e⟩
 .cases h
 grind
def rG(g:Qy aj)(k:Nat):N (dA (g.take k))<=N g:=by have:=uM (g.take k) [];rw[XT]at this;unfold dA;simp at this;omega
theorem aW.there(h:aW Tq Tp Fq w gb A os g){p:aj}(hp:p∈g)(hx:p.2=O x) :
  decide (A x.1∈(dA (g.take k)).map λy=>A y.1)=(dA (g.take k)).any (λy=>y.1==x.1):=by
 rw[XU,Zf,List.any_eq_true,ZL];constructor
 .rintro⟨y,b,e⟩;obtain⟨d,a,f⟩:=Bi b;exact⟨y,b,by rw[beq_iff_eq];exact h.inj d a p hp y x f hx e⟩
 grind
theorem Bj(h:aW 141 161 Fq w gb A os g)(hl:N g<=20)(gc:Nat) :
  Calls V 150 #[Z (O (aD gb 0)) (N g) gc] w λe w'=>∃v,e=Qv v/\w'.ownsRow (M (H w)) 93 1 v (N ((dA g).map λx=>A x.1)) (((dA g).map λx=>A x.1).map λx=>Value.pointer (O (aD x 0)))/\Bw w w':=by
 have HG:=Zh h;obtain⟨d,j⟩:=eY (λk=>(dA (g.take k)).map λx=>A x.1:Nat->Qy Nat);have ak:Qn (∀k,k<N g->(E g k nD).2=Qs->d (k+1)=d k):=λk C e=>by rw[j];simp only;rw[wW g C];unfold lV;rw[e]
 have Ff:Qn (∀k x,k<N g->(E g k nD).2=O x->d (k+1)=if A x.1∈d k then d k else d k++[A x.1]):=λk x C e=>by
  have ht:=h.there (k:=k) (oK C) e;have e1:d (k+1)=(if (dA (g.take k)).any (λy=>y.1==x.1)=T then dA (g.take k) else dA (g.take k)++[x]).map λx=>A x.1:=by rw[j];simp only;rw[wW g C];unfold lV;rw[e]
  grind
 have au:Qn (∀k,N (d k)<=20):=λk=>by rw[j];simp only;rw[ZH];exact ZN (rG g k) hl
 have av:Qn (d (N g)=(dA g).map λx=>A x.1):=Qb;have ax:Qn (d 0=[]):=by rw[j];rfl
 have Sq:Qn (∀k,∀a∈d k,∃c t,w.heap[a]? = O (Obj.cells c t (0,0))):=λk a ha=>by rw[j]at ha;obtain⟨y,hy,rfl⟩:=ZL.1 ha;obtain⟨p,hp,e⟩:=Bi hy;obtain⟨c,hc⟩:=(h.tree p hp y e).blk;exact⟨c,_,hc⟩
 have vz:Qn (∀k x,k<N g->(E g k nD).2=O x->∃c t,w.heap[A x.1]? = O (Obj.cells c t (0,0))):=λk x C hx=>by obtain⟨c,hc⟩:=(h.tree _ (oK C) x hx).blk;exact⟨c,_,hc⟩
 clear h j;generalize (dA g).map (λx=>A x.1)=R at*;go_enter func150,ntmps150;go_wp2;go_loopw [3,8] (λpv iv wr=>∃k:Nat,k<=N g/\iv=I J (k:Int)/\Qn (wr.ownsRow (M (H w)) 93 1 pv (N (d k)) ((d k).map λx=>Value.pointer (O (aD x 0))))/\Qn (Bw w wr)) (λ_ iv _=>N g-(intOf iv).toNat)
 case atStart=>exact⟨0,ZB _,rfl,by rw[ax.o];exact Xm _ _ _ _,Q9 _ _⟩
 case round=>
  obtain⟨k,C,rfl,m,K⟩:=hrel;obtain⟨L,xm,P,rfl⟩:=Xh m.o;by_cases l:k<N g
  .obtain⟨c0,c1⟩:=(HG.o.below K.o).cells l;have n:=Zh (ak.o k l);have q:Qn _:=λx=>Ff.o k x l
   have r:Qn _:=λx=>vz.o k x l;generalize E os k eG=ov at*;obtain⟨oa,oc,ox⟩:=ov;simp only[ah.val]at c0;generalize (E g k nD).2=pp at*
   cases pp with
   |none =>
    have u:=Zh (n.o rfl);simp only[FI]at c1;have f:Bw wr (wr.alloc (Qt #[Z oa (N ox) oc,Y Qs] 161)):=cZ _ _;have S:Qn ((wr.alloc (Qt #[Z oa (N ox) oc,Y Qs] 161)).ownsRow (M (H w)) 93 1 (Z L xm P) (N (d (k+1))) ((d (k+1)).map λx=>Value.pointer (O (aD x 0)))):=by rw[u.o];exact Xf m.o (ZP (s:=λb=>b<M (H wr)) f (λb _ h=>h)) (λg hg=>(Xg m.o hg).2)
    have W:=Zh (K.o.trans (f.mono K.o.size));clear n q r m f;go_wp2;go_roundw
    case rel=>grind
    case measure=>exact XK
   |some x =>
    simp only[FI]at c1;obtain⟨D,af⟩:=eX (wr.alloc (Qt #[Z oa (N ox) oc,Y (O (aD (A x.1) 0))] 161));have f:Bw wr D:=by rw[<-af];exact cZ _ _
    have wX:=K.o.trans (f.mono K.o.size);have d1:Qp D (aD (M (H wr)) 1)=O (Y (O (aD (A x.1) 0))):=by rw[<-af];simp
    have z:=Xf m.o (ZP (s:=λb=>b<M (H wr)) f (λb _ h=>h)) (λg hg=>(Xg m.o hg).2);have az:=au.o k;obtain⟨ya,yc,hy,ag,-⟩:=lL z X;simp only[Value.slice.injEq]at hy;obtain⟨rfl,rfl,rfl⟩:=hy;have B:∀a,(∃c t,w.heap[a]? = O (Obj.cells c t (0,0)))->∃c t,D.heap[a]? = O (Obj.cells c t (0,0)):=λa ⟨c,t,e⟩=>⟨c,t,(wX.block _ (ZV.1 e).1).trans e⟩;have G:=zI L P (d k) (A x.1) D ag (B _ (r.o x rfl)) (λa ha=>B _ (Sq.o k a ha));obtain⟨UL,S,W⟩:=jX (q.o x rfl) z wX;have aa:=wX.size;clear B ag z f wX n q r m;generalize A x.1=xa' at*;by_cases Q:xa'∈d k
    .have u:=Zh (UL.o.trans (Zb Q));rw[Zi Q]at G;have aA:Qn (D.ownsRow (M (H w)) 93 1 (Z L (N (d k)) P) (N (d (k+1))) ((d (k+1)).map λx=>Value.pointer (O (aD x 0)))):=by rw[u.o];exact S.o
     clear UL Q S u;go_wp2_with fail;refine G.mono ?_;rintro e w4 ⟨rfl,i⟩;have i:=i.symm;subst i;clear G;go_wp2;go_roundw
     case rel=>grind
     case measure=>exact XK
    .have u:=Zh (UL.o.trans (Zg Q));rw[Zr Q]at G;obtain⟨v',w5,xO,tQ,ai,⟨za,zm,zc,rfl⟩,ay⟩:=wI D (M (H w)) (Z L (N (d k)) P) (d k) S.o X aa xa' 139;have Cv:Qn (w5.ownsRow (M (H w)) 93 1 (Z za zm zc) (N (d (k+1))) ((d (k+1)).map λx=>Value.pointer (O (aD x 0)))):=by rw[u.o];exact tQ
     have ko:=Zh (W.o.trans (ai.below aa (λb hb e=>Qk ((Xg S.o e).1))));clear UL Q tQ ai ay u;go_wp2_with fail;refine G.mono ?_;rintro e w4 ⟨rfl,i⟩;have i:=i.symm;subst i;clear G;go_wp2_with (first|(at_builtin;refine Xz rfl (.tmp 22) (.tmp 25) 139 rfl (Z L (N (d k)) P) (Z (O (aD (M (H D)) 0)) 1 1) (Z za zm zc) w5 rfl rfl xO ?_));clear xO;go_wp2;go_roundw
     case rel=>grind
     case measure=>exact XK
  .have ae:N g=k:=X
   have HF:Qn (wr.ownsRow (M (H w)) 93 1 (Z L xm P) (N R) (R.map λx=>Value.pointer (O (aD x 0)))):=by rw[<-av.o,ae];exact m.o
   clear ae;go_wp2;go_ret;exact⟨_,rfl,HF.o,K.o⟩
def qf(o:ah):Qy Value:=[o.val,Y Qs]
theorem Tc(h:w.ownsRow base Tp 2 v (N os) (os.flatMap qf))(h0:0<N os)(ho:∀o∈os,IntsIn Fq w o/\N o.xs<=1000)(A:Nat->Nat) :
  ∃gb cap,v=Z (O (aD gb 0)) (N os) cap/\base<=gb/\gb<M (H w)/\N os<=cap/\cap<=9223372036854775807/\aW Tq Tp Fq w gb A os (dz (os.map ah.xs)):=by
 rcases h.2 with⟨_,h1⟩|⟨g,cap,cur,rfl,hb,hh,hc,hm,hs,ht⟩
 .omega
 have k:N (dz (os.map ah.xs))=N os:=by unfold dz;simp
 have m:∀i,i<N os->E os i eG∈os:=λi d=>Qb;have l:∀i,i<N os->E (dz (os.map ah.xs)) i nD=((E os i eG).xs,Qs):=λi d=>by unfold dz;grind
 have a:∀i j u,i<N os->j<2->(qf (E os i eG))[j]? = O u->cur[i*2+j]? = O u:=λi j u d n t=>by have r:=XD qf 2 (λ_=>rfl) eG os i j d n;grind
 have b:∀p∈dz (os.map ah.xs),p.2=none:=λp e=>by unfold dz at e;grind
 refine⟨g,cap,rfl,hb,(ZV.1 hh).1,hc,(by unfold maxLen at hm;omega),⟨cur,hh,λi d=>?_⟩,λi d=>?_,λp e x f=>?_,λp e y q x z f=>?_⟩
 .rw[k]at d;rw[l i d];exact⟨a i 0 _ d X rfl,a i 1 _ d X rfl⟩
 .grind
 .rw[b p e]at f
  cases f
 .rw[b p e]at f
  cases f
def Tryz.Td:(V.info? 161).map (λi=>(i.zero,i.size,i.bytes))=O (O (Qu #[Z Qs 0 0,Y Qs]),2,32):=Qd
theorem NH(W:U)(base:Nat)(v:Qm)(os:Qy ah)(hown:W.ownsRow base 161 2 v (N os) (os.flatMap qf))(hl:N os<=1000)(hb:base<=M (H W))(o:ah)(ty:TypeId) :
  ∃d w',(Builtin.append_ #[112,112] ty #[v,Z (O (aD (M (H W)) 0)) 1 1]).run V (W.alloc (Qt #[o.val,Y Qs] 161))=.ok d w'/\
   w'.ownsRow base 161 2 d (N (os++[o])) ((os++[o]).flatMap qf)/\Kept (λb=>v.ownBlock≠O b) W w'/\(∃a m c,d = Z a m c):=by
 obtain⟨j,k,e,f,g⟩:=Xl Tryz.Td;obtain⟨d,w',l,r,n,p,q⟩:=iq (P:=V) W base 112 ty 161 j _ 2 32 underlying112 k e f g rfl Qc v (N os) _ hown hb (qf o) rfl (λu i=>by
  unfold qf ah.val at i;simp at i;rcases i with rfl|rfl <;> rfl) hl Qc
 exact⟨d,w',l,Qb,n,p⟩
theorem Dg(os:Qy ah)(io:PN)(ic:Nat)(tY:bg w io (N os) (λi=>(E os i eG).val))(ho:∀o∈os,IntsIn Fq w o/\N o.xs<=1000)(h0:0<N os)(hl:N os<=1000)(A:Nat->Nat) :
  Calls V 44 #[Z io (N os) ic] w λe w'=>∃gb cap,e=Qv (Z (O (aD gb 0)) (N os) cap)/\M (H w)<=gb/\gb<M (H w')/\N os<=cap/\cap<=9223372036854775807/\aW 141 161 Fq w' gb A os (dz (os.map ah.xs))/\Bw w w':=by
 have G:Qn _:=tY;have K:Qn (∀x v,Bw w x->x.ownsRow (M (H w)) 161 2 v (N os) (os.flatMap qf)->∃gb cap,v=Z (O (aD gb 0)) (N os) cap/\M (H w)<=gb/\gb<M (H x)/\N os<=cap/\cap<=9223372036854775807/\aW 141 161 Fq x gb A os (dz (os.map ah.xs))):=λx v C hv=>Tc hv h0 (λo D=>⟨(ho o D).1.below C,(ho o D).2⟩) A;have l:Qn (∀k,k<N os->os.take (k+1)=os.take k++[E os k eG]):=λk z=>Jf os eG z;have Ph:Qn (os.take (N os)=os):=ZJ;generalize dz (os.map ah.xs)=R at*;clear tY ho;go_enter func44,ntmps44;go_wp2;go_loopw [3,8] (λpv u wr=>∃k:Nat,k<=N os/\u=I J (k:Int)/\Qn (wr.ownsRow (M (H w)) 161 2 pv (N (os.take k)) ((os.take k).flatMap qf))/\Qn (Bw w wr)) (λ_ u _=>N os-(intOf u).toNat)
 case atStart=>exact⟨0,ZB _,rfl,Xm _ _ _ _,Q9 _ _⟩
 case round=>
  obtain⟨k,z,rfl,f,d⟩:=hrel;obtain⟨p,q,r,rfl⟩:=Xh f.o;by_cases a:k<N os
  .obtain⟨bb,M5,rfl,g⟩:=Q0 (bg.below d.o G.o) a;have m:=g k a;have y:=Zh (l.o k a);obtain⟨v',S,B,t,j,⟨W,zm,zc,rfl⟩⟩:=NH wr (M (H w)) (Z p q r) (os.take k) f.o (by rw[XT];omega) d.o.size (E os k eG) 112;rw[<-y.o]at t;have L:Qn _:=t;have P:=Zh (d.o.trans (j.below d.o.size (λb C e=>Qk ((Xg f.o e).1))));generalize E os k eG=o at*;obtain⟨oa,oc,ox⟩:=o;simp only[ah.val]at*;clear g t j y f;go_wp2_with (first|(at_builtin;refine Xz rfl (.tmp 12) (.tmp 15) 112 rfl (Z p q r) (Z (O (aD (M (H wr)) 0)) 1 1) (Z W zm zc) S rfl rfl B ?_));clear B m;go_wp2;go_roundw
   case rel=>exact⟨k+1,X,Qe,L.o,P.o⟩
   case measure=>exact XK
  .have n:N os=k:=X
   have Q:Qn _:=K.o wr (Z p q r) d.o (by
    have:=f.o;grind)
   clear n;go_wp2;go_ret;obtain⟨gb,cap,e,h1,h2,h3,h4,h5⟩:=Q.o;exact⟨gb,cap,by rw[<-e];rfl,h1,h2,h3,h4,h5,d.o⟩
def Tryz.BM:(V.info? 138).map (λi=>(i.zero,i.size,i.bytes))=O (O (Qu #[I J 0,I J 0,I J 0,I J 0,Z Qs 0 0,I J 0,Z Qs 0 0]),7,88):=Qd
def Er{ns:Qy ai}:∀u∈ns.flatMap ai.list,u.oneCell' = true:=by intro u b;obtain⟨n,_,a⟩:=X5.1 b;unfold ai.list ah.val at a;simp at a;rcases a with rfl|rfl|rfl|rfl|rfl|rfl|rfl <;> rfl
def BN(v:Qm)(base:Nat)(ns:Qy ai)(w:U)(hx:w.ownsRow base 138 7 v (N ns) (ns.flatMap ai.list))(hl:N ns<=1000) :
  Calls V 190 #[v] w λe w'=>∃v,e=Qv v/\w'.ownsRow (M (H w)) 138 7 v (N ns) (ns.flatMap ai.list)/\Bw w w':=by
 obtain⟨n,p,b,d,f⟩:=Xl Tryz.BM;rcases XF hx with⟨rfl,h1⟩|⟨g,cap,rfl,hb,hlt,hc⟩
 .have k:=List.length_eq_zero_iff.1 h1;subst k;have a:∀W,(binOp .eql 60 (.slice Qs 0 0) (.slice Qs 0 0)).run V W=.ok (.bool T) W:=λW=>Ja W 60 _ Qs _ _ _ _ underlying60
  go_enter func190,ntmps190;go_wp2;go_ret;exact⟨_,rfl,Xm _ _ _ _,Q9 _ _⟩
 .obtain⟨B,w',q,r,i,⟨t,y,z,rfl⟩⟩:=mJ (P:=V) w 60 60 138 n _ 7 88 underlying60 p b d f rfl Qc (aD g 0) (N ns) cap (ns.flatMap ai.list) (jA ai.list 7 (λ_=>rfl) ns)
   (λj u A=>⟨g,0,rfl,by rw[ZC];exact hc j u A⟩) Er X Qc
  have a:∀W,(binOp .eql 60 (.slice (O (aD g 0)) (N ns) cap) (.slice Qs 0 0)).run V W=.ok (.bool false) W:=λW=>Ja W 60 _ (O (aD g 0)) _ _ _ _ underlying60;have l:Qn _:=r;have m:=Zh i;go_enter func190,ntmps190;go_wp2_with (first|(at_builtin;refine Xz rfl (.tmp 5) (.tmp 6) 60 rfl (.slice (O (aD (M (H w)) 0)) 0 0) (.slice (O (aD g 0)) (N ns) cap) (.slice t y z) w' rfl rfl q ?_));go_wp2;go_ret;exact⟨_,rfl,l.o,m.o⟩
theorem Od(v:Qm)(base:Nat)(ns:Qy ai)(a:Nat)(w:U)(hx:w.ownsRow base 138 7 v (N ns) (ns.flatMap ai.list))(hl:N ns<=1000)(hs:bM w 0)(hk:∀m∈ns,1<=m.kind/\m.kind<=10) :
  Calls V 153 #[v,I J (a:Int)] w λe w'=>∃v,e=Qv v/\w'.ownsRow (M (H w)) 138 7 v (N ns) ((ns.map (bO a)).flatMap ai.list)/\Bw w w':=by
 have Pg:=BN v base ns w hx hl;have HS:=Zh hs;have ay:Qn (∀i,i<N ns->1<=(E ns i nz).kind/\(E ns i nz).kind<=10):=λi hi=>hk _ (Xy hi);obtain⟨aj,ak⟩:=aS (FD a ns) (IZ a ns);have L:Qn (∀k,k<N ns->E (iM a ns k) k nz=E ns k nz):=λk hk=>IY a hk;have aa:Qn (∀k,k<N ns->iM a ns (k+1)=(iM a ns k).set k (bO a (E ns k nz))):=λk hk=>Fy a hk;have D:=Zh (IX a ns);obtain⟨va,vn,vc,rfl⟩:=Xh hx;obtain⟨u,aF⟩:=eY (iM a ns);rw[<-aF]at aj ak L aa D;generalize ns.map (bO a)=R at*;go_enter func153,ntmps153;go_wp2_with fail;refine Pg.mono ?_;rintro e w1 ⟨v1,rfl,P,aG⟩;have Sz:Qn (w1.ownsRow (M (H w)) 138 7 v1 (N ns) ((u 0).flatMap ai.list)):=by rw[aj.o];exact P
 have aH:=Zh aG;obtain⟨xa,xm,xc,rfl⟩:=Xh P;have az:xm=N ns:=by
  rcases P.2 with⟨h,h1⟩|⟨g,c,cur,h,_⟩
  .injection h with _ h _;omega
  .injection h with _ h _
 subst az;go_wp2;go_loopw [12] (λiv wr=>∃k:Nat,k<=N ns/\iv=I J (k:Int)/\Qn (wr.ownsRow (M (H w)) 138 7 (Z xa (N ns) xc) (N ns) ((u k).flatMap ai.list))/\Qn (Bw w wr)) (λiv _=>N ns-(intOf iv).toNat)
 case atStart=>grind
 case round=>
  obtain⟨k,hk,rfl,S,W⟩:=hrel;by_cases q:k<N ns
  .obtain⟨g,cap,hv,aM,aN,d⟩:=IW S.o (i:=k) (by rw[D.o];exact q);simp only[Value.slice.injEq]at hv;obtain⟨rfl,-,rfl⟩:=hv;rw[L.o k q]at d;obtain⟨au,av⟩:=ay.o k q;obtain⟨Q,K⟩:=aS (aa.o k q) (L.o k q);obtain⟨n,hn⟩:=eY (E ns k nz)
   rw[<-hn]at d au av Q K;have c0:=d 0 _ X rfl;have c1:=d 1 _ X rfl;have c2:=d 2 _ X rfl;rw[XH]at c0;have aI:=Bb S.o (g:=g) rfl (k*7+1);obtain⟨kd,ax⟩:=XR (show 0<=n.kind by omega);have hS:=(Jd W.o HS.o).get (k:=kd) X;obtain⟨s0,-⟩:=hS;have ae:=oh au;rw[ax]at ae c0;rw[ae,ZC]at s0;have af:bO a n=⟨n.kind,if 1<=arity (kd:Int) then wrap64 (n.l+a) else n.l,if 2<=arity (kd:Int) then wrap64 (n.r+a) else n.r,n.source,n.cl,n.key,n.co⟩:=by unfold bO;rw[ax]
   have aA:arity (kd:Int)<=2:=by unfold arity;split <;> (try split) <;> omega
   generalize arity (kd:Int)=ar at*;have aJ:kd<=10:=X;obtain⟨nk,p,t,z,A,B,C⟩:=n;simp only at*
   match ar,aA with
   |0,_ =>
    have HN:Qn (u (k+1)=u k):=by
     show _=_;have e:bO a ⟨nk,p,t,z,A,B,C⟩=⟨nk,p,t,z,A,B,C⟩:=by rw[af];simp
     rw[Q.o,e];have:=VX (u k) nz (k:=k) (by rw[D.o];exact q);rw[K.o]at this;exact this
    have G:Qn _:=S;rw[<-HN.o]at G;go_wp2;go_roundw
    case rel=>grind
    case measure=>exact XK
   |1,_ =>
    obtain⟨w4,y⟩:=eX (Qo wr (aD g (k*7+1)) (I J (wrap64 (p+a))));have HN:Qn (u (k+1)=(u k).set k ⟨nk,wrap64 (p+a),t,z,A,B,C⟩):=by grind
    have f:=zR S.o (g:=g) rfl (j:=k*7+1) X (I J (wrap64 (p+a)));rw[su (u k) k 1 (I J (wrap64 (p+a))) ⟨nk,wrap64 (p+a),t,z,A,B,C⟩ (by rw[D.o];exact q) X (by rw[K.o];rfl),<-HN.o,y]at f;have G:Qn _:=f;have rf:Qn (Bw w w4):=by show Below _ _ _;rw[<-y];exact W.o.trans ((Ji (g:=g) _).below W.o.size (λb hb=>X))
    go_wp2;go_roundw
    case rel=>exact⟨k+1,X,Qe,G.o,rf.o⟩
    case measure=>exact XK
   |2,_ =>
    obtain⟨w4,y⟩:=eX (Qo wr (aD g (k*7+1)) (I J (wrap64 (p+a))));obtain⟨w5,uC⟩:=eX (Qo w4 (aD g (k*7+2)) (I J (wrap64 (t+a))));have HN:Qn (u (k+1)=((u k).set k ⟨nk,wrap64 (p+a),t,z,A,B,C⟩).set k ⟨nk,wrap64 (p+a),wrap64 (t+a),z,A,B,C⟩):=by
     show _=_;have e:bO a ⟨nk,p,t,z,A,B,C⟩=⟨nk,wrap64 (p+a),wrap64 (t+a),z,A,B,C⟩:=by rw[af];simp
     rw[Q.o,e,List.set_set]
    have f:=zR S.o (g:=g) rfl (j:=k*7+1) X (I J (wrap64 (p+a)));have ag:k<N (u k):=by rw[D.o];exact q
    rw[su (u k) k 1 (I J (wrap64 (p+a))) ⟨nk,wrap64 (p+a),t,z,A,B,C⟩ ag X (by rw[K.o];rfl),y]at f;have aB:E ((u k).set k ⟨nk,wrap64 (p+a),t,z,A,B,C⟩) k nz=⟨nk,wrap64 (p+a),t,z,A,B,C⟩:=by grind
    have ah:=zR f (g:=g) rfl (j:=k*7+2) X (I J (wrap64 (t+a)));rw[su _ k 2 (I J (wrap64 (t+a))) ⟨nk,wrap64 (p+a),wrap64 (t+a),z,A,B,C⟩ (by rw[Jh];exact ag) X (by rw[aB];rfl),<-HN.o,uC]at ah;have aK:Qp w4 (aD g (k*7+2))=O (I J t):=by rw[<-y];exact(World.cell?_setCell_other _ _ _ _ Qa).trans c2
    have aL:w4.frozen? (aD g (k*7+2))=false:=Bb f (g:=g) rfl _;have G:Qn _:=ah;have ko:Qn (Bw w w5):=by
     show Below _ _ _;have h4:Bw w w4:=by rw[<-y];exact W.o.trans ((Ji (g:=g) _).below W.o.size (λb hb=>X))
     rw[<-uC];exact h4.trans ((Ji (g:=g) _).below h4.size (λb hb=>X))
    go_wp2;go_roundw
    case rel=>exact⟨k+1,X,Qe,G.o,ko.o⟩
    case measure=>exact XK
  .have aC:N ns=k:=X
   have HF:Qn _:=S;rw[<-aC,ak.o]at HF;go_wp2;go_ret;exact⟨_,rfl,HF.o,W.o⟩
def yH(ls:Qy (Qy ai)):(fw ls).map dM=fw (ls.map λl=>l.map dM):=by
 unfold fw
 suffices h:∀(ls:Qy (Qy ai)) (a:Qy ai),(ls.foldl (λa l=>a++l.map (bO (N a))) a).map dM=(ls.map λl=>l.map dM).foldl (λa l=>a++l.map (bO (N a))) (a.map dM) from h ls []
 intro ls
 induction ls with
 |nil=>intro a;rfl
 |cons l ls ih =>
  intro a;rw[Zw,ih,List.map_cons,Zw,Q5,List.map_map,List.map_map,ZH];rfl
def TN(ls:Qy (Qy ai))(hi:i<N ls):fw (ls.take (i+1))=fw (ls.take i)++(E ls i []).map (bO (N (fw (ls.take i)))):=by rw[Jf ls [] hi,RH]
theorem YL{ls:Qy (Qy ai)}:∀m∈fw ls,∃l∈ls,∃x∈l,m.cl=x.cl/\m.co=x.co:=by
 suffices h:∀(ls:Qy (Qy ai)) (a:Qy ai),∀m∈ls.foldl (λa l=>a++l.map (bO (N a))) a,m∈a∨∃l∈ls,∃x∈l,m.cl=x.cl/\m.co=x.co by
  intro m d;rcases h ls [] m d with h|h
  .cases h
  .exact h
 intro ls
 induction ls with
 |nil=>intro a m h;exact .inl h
 |cons l ls ih =>
  intro a m h;rcases ih _ m h with h|⟨e,f,g⟩
  .rcases Xk.1 h with h|h
   .exact .inl h
   .obtain⟨x,b,rfl⟩:=ZL.1 h;exact .inr ⟨l,XL,x,b,rfl,rfl⟩
  grind
theorem Dn(ls:Qy (Qy ai))(h2:N ls<=2)(i:Nat):N (fw (ls.take i))<=N (fw ls):=by rw[AU _ (by rw[XT];omega),AU _ h2];grind
def xD{base':Nat}{e:TypeId}{sz:Nat}{n:Nat}{xs:Qy Qm}(h:w.ownsRow base e sz v n xs)(hb:base'<=base):w.ownsRow base' e sz v n xs:=
 ⟨h.1,h.2.imp id λ⟨g,cap,cur,e,h1,h2⟩=>⟨g,cap,cur,e,ZN hb h1,h2⟩⟩
def BO(w:U)(ao:PN)(vs:Qy Qm):Prop:=bg w ao (N vs) (λi=>E vs i (Z Qs 0 0))
theorem Oe(W:U)(base alo:Nat)(v v2:Qm)(acc ms:Qy ai)(hown:W.ownsRow base 138 7 v (N acc) (acc.flatMap ai.list))(h2:W.ownsRow alo 138 7 v2 (N ms) (ms.flatMap ai.list))(hl:N acc+N ms<=1000)(hb:base<=M (H W))(ty:TypeId) :
  ∃d w',(Builtin.append_ #[60,60] ty #[v,v2]).run V W=.ok d w'/\
   w'.ownsRow base 138 7 d (N (acc++ms)) ((acc++ms).flatMap ai.list)/\Kept (λb=>v.ownBlock≠O b) W w'/\(∃a m c,d = Z a m c):=by
 obtain⟨n,p,f,i,k⟩:=Xl Tryz.BM;rcases XF h2 with⟨rfl,h1⟩|⟨g,cap,rfl,_,hlt,hc⟩
 .have q:=List.length_eq_zero_iff.1 h1;subst q;refine⟨v,W,run_append_owned_none (P:=V) (w:=W) base 60 ty 138 n 7 underlying60 p v (N acc) _ hown,by rw[X0];exact hown,ZO _ _,Xh hown⟩
 .obtain⟨d,w',l,t,y,_,_⟩:=XA (P:=V) W base 60 ty 138 n _ 7 88 underlying60 p f i k rfl Qc v (N acc) _ hown (aD g 0) (N ms) cap (ms.flatMap ai.list) (jA ai.list 7 (λ_=>rfl) ms)
   (λj u z=>by rw[addr_add,ZC];exact hc j u z) Er Qh X hb
  exact⟨d,w',l,Qb,Xe y (λr e l=>l e),Xh t⟩
theorem yI(W:U)(base:Nat)(v:Qm)(acc:Qy ai)(hown:W.ownsRow base 138 7 v (N acc) (acc.flatMap ai.list))(hl:N acc<=1000)(hb:base<=M (H W))(n:ai)(ty:TypeId) :
  ∃d w',(Builtin.append_ #[60,60] ty #[v,Z (O (aD (M (H W)) 0)) 1 1]).run V (W.alloc (Qt n.cells 138))=.ok d w'/\
   w'.ownsRow base 138 7 d (N (acc++[n])) ((acc++[n]).flatMap ai.list)/\Kept (λb=>v.ownBlock≠O b) W w'/\(∃a m c,d = Z a m c):=by
 obtain⟨j,k,e,f,g⟩:=Xl Tryz.BM;obtain⟨d,w',l,t,p,q,r⟩:=iq (P:=V) W base 60 ty 138 j _ 7 88 underlying60 k e f g rfl Qc v (N acc) _ hown hb n.list rfl (λu i=>by
  unfold ai.list ah.val at i;simp at i;rcases i with rfl|rfl|rfl|rfl|rfl|rfl|rfl <;> rfl) hl Qc
 exact⟨d,w',l,Qb,p,q⟩
theorem YM(hF:∀b,M (H w)<=b->Fq b)(hs:bM w 0)(n:ai)(hcl:n.cl.At w)(hcn:n.cl.ad=Qs->n.cl.cap=0)(hco:n.co.At w)(hdn:n.co.ad=Qs->n.co.cap=0)(hll:N n.cl.xs<=1000/\N n.co.xs<=1000)
  (io:PN) (ic:Nat) (ls:Qy (Qm × Qy ai)) (tY:BO w io (ls.map Prod.fst)) (hls:∀x∈ls,(∃base,eU 138 Fq base w x.1 x.2)/\∀m∈x.2,1<=m.kind/\m.kind<=10) (h2:N ls<=2) (hlen:N (fw (ls.map Prod.snd))<=900) :
  Calls V 103 #[Qu n.cells,Z io (N ls) ic] w (iA 138 Fq w (pF n (ls.map λx=>x.2.map dM))):=by
 obtain⟨D,aA⟩:=eY (ls.map Prod.snd);have aQ:N D=N ls:=by rw[aA,ZH]
 obtain⟨f,aB⟩:=eY (λi=>fw (D.take i):Nat->Qy ai);have aR:Qn (f 0=[]):=by rw[aB];rfl
 have aT:Qn (∀i,i<N ls->f (i+1)=f i++(E D i []).map (bO (N (f i)))):=λi hi=>by rw[aB];exact TN D X
 have V7:Qn (∀i,N (f i)<=900):=λi=>by rw[aB];exact ZN (Dn D X i) (by rw[aA];exact hlen)
 have aU:Qn (∀i,i<N ls->∃base,(w.ownsRow base 138 7 (E (ls.map Prod.fst) i (Z Qs 0 0)) (N (E D i [])) ((E D i []).flatMap ai.list))/\∀m∈D.getD i [],1<=m.kind/\m.kind<=10):=λi hi=>by have e1:E (ls.map Prod.fst) i (Z Qs 0 0)=(ls[i]).1:=Qb;have e2:E D i []=(ls[i]).2:=Qb;obtain⟨⟨base,r⟩,hk⟩:=hls _ (XO hi);rw[e1,e2];exact⟨base,r.own,hk⟩
 have lW:Qn (∀(x:U) (v:Qm) (y z:ah),Bw w x->x.ownsRow (M (H w)) 138 7 v (N (f (N ls)++[(⟨n.kind,qR D 0,qR D 1,n.source,y,n.key,z⟩:ai)])) ((f (N ls)++[(⟨n.kind,qR D 0,qR D 1,n.source,y,n.key,z⟩:ai)]).flatMap ai.list)->y.xs=n.cl.xs->z.xs=n.co.xs->IntsIn Fq x y->IntsIn Fq x z->
   iA 138 Fq w (pF n (ls.map λx=>x.2.map dM)) (Qv v) x):=by
  intro x v y z bQ hv hy hz aj ae;have aW:f (N ls)=fw D:=Qb;refine⟨v,_,rfl,?_,⟨hv,λg hg=>hF g (Xg hv hg).1,λm hm=>?_⟩,bQ⟩
  .rw[Q5,aW,yH];unfold pF;have e1:(D.map λl=>l.map dM)=ls.map λx=>x.2.map dM:=by rw[aA,List.map_map];rfl
   have e2:∀i,qR D i=qR (ls.map λx=>x.2.map dM) i:=λi=>by unfold qR;rw[<-e1,ZH,<-List.map_take,<-yH,ZH]
   rw[e1];congr 1;rw[List.map_singleton];show [(⟨n.kind,qR D 0,qR D 1,n.source,⟨Qs,0,y.xs⟩,n.key,⟨Qs,0,z.xs⟩⟩:ai)]=_;rw[hy,hz,e2,e2]
  .rcases Xk.1 hm with hm|hm
   .rw[aW]at hm;obtain⟨l,hl,u,hu,e1,e2⟩:=YL m hm;rw[aA]at hl;obtain⟨x0,cz,rfl⟩:=ZL.1 hl;obtain⟨⟨base,r⟩,_⟩:=hls x0 cz;obtain⟨h1,h2,h3,h4,h5⟩:=(r.below bQ).lists u hu
    grind
   .rw[Xj]at hm;rw[hm];exact⟨aj.at',aj.inf,ae.at',ae.inf,ae.cap⟩
 have Np:Qn (∀j,j<2->qR D j=if j<N ls then (N (f (j+1)):Int)-1 else 0):=λj _=>by unfold qR;rw[aB,aQ]
 have Pf:=hd tY;have bR:=hd hs;have aX:Qn (N (ls.map Prod.fst)=N ls):=ZH _;have yA:Qn (∀x,Bw w x->Calls V 41 #[n.cl.val] x λe w'=>∃v,e=Qv v/\w'.ownsRow (M (H x)) 3 1 v (N n.cl.xs) (n.cl.xs.map (Value.int J))/\Bw x w'):=λx hx=>nZ n.cl x (Q8 hx hcl) hcn X;have xP:Qn (∀x,Bw w x->Calls V 41 #[n.co.val] x λe w'=>∃v,e=Qv v/\w'.ownsRow (M (H x)) 3 1 v (N n.co.xs) (n.co.xs.map (Value.int J))/\Bw x w'):=λx hx=>nZ n.co x (Q8 hx hco) hdn X;obtain⟨Sc,wM⟩:=aS hll hF;clear hlen hls tY hs hcl hcn hco hdn hll aB aQ aA hF;generalize pF n (ls.map λx=>x.2.map dM)=R,ls.map Prod.fst=vs,N ls=sl at*;clear ls;obtain⟨kind,nl,nr,src,⟨ca,cc,cl⟩,key,⟨da,dc,co⟩⟩:=n;simp only[ai.cells,ah.val]at*;obtain⟨w1,cK,cO,av⟩:=bC w #[I J kind,I J nl,I J nr,I J src,Z ca (N cl) cc,I J key,Z da (N co) dc] 138;obtain⟨w2,cZ,bI,aI⟩:=bC w1 #[I J 0,I J 0] 221;have qO:=Zh (av.of (bI.block _ av.lt));have bS:=hd aI;have aY:=Zh (az cO bI);have oI:Qn (M (H w1)=M (H w)+1):=by show _=_;rw[<-cK];simp
 have aZ:=Zh (by  rw[<-cZ];simp;exact oI.o:M (H w2)=M (H w)+2)
 go_enter func103,ntmps103;go_wp2;go_loopw [5,11] (λnv iv wr=>∃k:Nat,k<=sl/\iv=I J (k:Int)/\Qn (wr.ownsRow (M (H w2)) 138 7 nv (N (f k)) ((f k).flatMap ai.list))/\Qn (GB wr (M (H w)) 138 #[I J kind,I J nl,I J nr,I J src,Z ca (N cl) cc,I J key,Z da (N co) dc])/\
   Qn (GB wr (M (H w1)) 221 #[I J (if 0<k then (N (f 1):Int)-1 else 0),I J (if 1<k then (N (f 2):Int)-1 else 0)])/\Qn (Bw w wr)/\Qn (M (H w2)<=M (H wr))) (λ_ iv _=>sl-(intOf iv).toNat)
 case atStart=>exact⟨0,ZB _,rfl,by rw[aR.o];exact Xm _ _ _ _,qO.o,bS.o,aY.o,Za _⟩
 case round=>
  obtain⟨k,hk,rfl,HO,xu,ze,HB,D7⟩:=hrel;obtain⟨xa,xm,xc,rfl⟩:=Xh HO.o;have bT:xm=N (f k):=by
   rcases HO.o.2 with⟨h,h1⟩|⟨g,c,cur,h,_⟩
   .injection h with _ h _;omega
   .injection h with _ h _
  subst bT;by_cases aH:k<sl
  .obtain⟨bb,M5,df,bJ⟩:=Q0 (bg.below HB.o Pf.o) (i:=k) (by rw[aX.o];exact aH);subst df;have bf:=bJ k (by rw[aX.o];exact aH);obtain⟨base,ak,aO⟩:=aU.o k aH;have JD:=Zh (aT.o k aH);have aM:=V7.o (k+1);have bU:=V7.o k;rw[JD.o,ZG,ZH]at aM;obtain⟨L,hL⟩:=eY (E D k [])
   obtain⟨lv,aP⟩:=eY (E vs k (Z Qs 0 0));rw[<-hL,<-aP]at ak;rw[<-hL]at aO JD aM;rw[<-aP]at bf;have bn:=Od lv base L (N (f k)) wr (Xf ak (ZP (s:=λb=>b<M (H w)) HB.o (λb _ h=>h)) (λg hg=>(Xg ak hg).2)) X (Jd HB.o bR.o) aO;obtain⟨la,lm,lc,rfl⟩:=Xh ak;have bV:N L=N (L.map (bO (N (f k)))):=by rw[ZH]
   clear bJ ak aO hL aP;go_wp2_with fail;refine bn.mono ?_;rintro e w3 ⟨v3,rfl,aK,aC⟩;clear bn;have bq:=Xf HO.o (ZP (s:=λb=>b<M (H wr)) aC (λb _ h=>h)) (λg hg=>(Xg HO.o hg).2);rw[bV]at aK;obtain⟨v4,w4,bK,yD,bL,⟨Q,ym,W,rfl⟩⟩:=Oe w3 (M (H w2)) (M (H wr)) (Z xa (N (f k)) xc) v3 (f k) (L.map (bO (N (f k)))) bq aK (by rw[ZH];omega) (ZN D7.o aC.size) 60;rw[<-JD.o]at yD;have bW:ym=N (f (k+1)):=by
    rcases yD.2 with⟨h,h1⟩|⟨g,c,cur,h,_⟩
    .injection h with _ h _;omega
    .injection h with _ h _
   subst bW;obtain⟨ta,tm,tc,rfl⟩:=Xh aK;have bu:∀b,b<M (H w2)->(Value.slice xa (N (f k)) xc).ownBlock≠O b:=λb q e=>Qk ((Xg HO.o e).1);have Gi:=bL.below (ZN D7.o aC.size) bu;have au:=(aC.mono D7.o).trans Gi;have bz:M (H w)<M (H w2)/\M (H w1)<M (H w2):=Ql oI.o aZ.o;have av:=xu.o.of (au.block _ bz.1);have aI:=ze.o.of (au.block _ bz.2);have dn:Qn _:=yD;have bX:=hd av;have aJ:=hd aI;obtain⟨rf,dh⟩:=aS (HB.o.trans (au.mono aY.o.size)) (ZN D7.o au.size);have bA:=λj=>Zm aJ.o j;have dw:=V7.o (k+1);have bB:k<2:=X;have dm:wrap64 ((N (f (k+1)):Int)-1)=(N (f (k+1)):Int)-1:=Qg;obtain⟨w5,uC⟩:=eX (Qo w4 (aD (M (H w1)) k) (I J ((N (f (k+1)):Int)-1)));have Cv:Qn (w5.ownsRow (M (H w2)) 138 7 (Z Q (N (f (k+1))) W) (N (f (k+1))) ((f (k+1)).flatMap ai.list)):=by rw[<-uC];exact Xf yD (Ji (g:=M (H w1)) _) (λg hg=>Qk ((Xg yD hg).1))
   have Eo:Qn (GB w5 (M (H w)) 138 #[I J kind,I J nl,I J nr,I J src,Z ca (N cl) cc,I J key,Z da (N co) dc]):=by rw[<-uC];exact Xx bX.o (Ji (g:=M (H w1)) _) (Qk oI.o)
   have bY:Qn (GB w5 (M (H w1)) 221 #[I J (if 0<k+1 then (N (f 1):Int)-1 else 0),I J (if 1<k+1 then (N (f 2):Int)-1 else 0)]):=by
    show GB _ _ _ _;have:=GB.set aJ.o k (I J ((N (f (k+1)):Int)-1));rw[<-uC]
    match k,bB,this with
    |0,_,h=>exact h
    |1,_,h=>exact h
   have C:Qn (Bw w w5):=by show Below _ _ _;rw[<-uC];exact rf.o.trans ((Ji (g:=M (H w1)) _).below rf.o.size (λb q=>Qk oI.o))
   have ax:Qn (M (H w2)<=M (H w5)):=by show _<=_;rw[<-uC];simpa using dh.o
   have bD:∃u,Qp w4 (aD (M (H w1)) k)=O u:=by
    match k,bB with
    |0,_=>exact⟨_,aJ.o.cell 0⟩
    |1,_=>exact⟨_,aJ.o.cell 1⟩
   obtain⟨cu,bD⟩:=bD;have dx:=bA k;clear Gi au av aI yD bL aK bq bu aC bA HO xu ze JD bU aM;go_wp2_with (first|(at_builtin;refine Xz rfl (.tmp 16) (.tmp 20) 60 rfl (Z xa (N (f k)) xc) (Z ta tm tc) (Z Q (N (f (k+1))) W) w4 rfl rfl bK ?_));clear bK bf;go_wp2;go_roundw
   case rel=>exact⟨k+1,X,Qe,Cv.o,Eo.o,bY.o,C.o,ax.o⟩
   case measure=>exact XK
  .have bZ:sl=k:=X
   subst bZ;have h0:(if 0<sl then (N (f 1):Int)-1 else 0)=qR D 0:=(Np.o 0 X).symm;have h1:(if 1<sl then (N (f 2):Int)-1 else 0)=qR D 1:=(Np.o 1 X).symm;rw[h0,h1]at ze;obtain⟨e0,bN⟩:=eY (qR D 0);obtain⟨e1,bP⟩:=eY (qR D 1);rw[<-bN,<-bP]at ze lW;obtain⟨w3,di⟩:=eY (wr);subst di;clear h0 h1 bN bP Np aU aT aH hk aR;have wQ:Qn (M (H w)<M (H w2)/\M (H w1)<M (H w2)/\M (H w)<M (H w1)):=by have:=oI.o;have:=aZ.o;show _/\_;omega
   have bE:M (H w1)≠M (H w):=Qk wQ.o;obtain⟨z0,z1⟩:=ze.o.k2;have bF:=xu.o.of (((Q9 (M (H w3)) w3).drew).block _ xu.o.lt);have d1:=bF.at 1;have f1:=bF.frozen 1;have aN:=xu.o.set 1 (I J e0);have aL:=aN.of (((Q9 _ _).drew).block _ aN.lt);have d2:(Qo w3 (aD (M (H w)) 1) (I J e0)).drew.cell? (aD (M (H w)) 2)=O (I J nr):=aL.cell 2;have f2:=aL.frozen 2;have bG:=aN.set 2 (I J e1);have bH:=bG.of (((Q9 _ _).drew).block _ bG.lt);obtain⟨w5,uC⟩:=eX ((Qo (Qo w3 (aD (M (H w)) 1) (I J e0)) (aD (M (H w)) 2) (I J e1)).drew);rw[uC]at bH;have Eo:=hd bH;have YN:Kept (λb=>b≠M (H w)) w3 w5:=by rw[<-uC];exact((Ji (g:=M (H w)) _).trans (Ji (g:=M (H w)) _)).trans (ZP ((Q9 _ _).drew) (λ_ hl _=>hl))
   obtain⟨Cv,C,ax⟩:=jX (Xf HO.o YN (λg hg=>Ql ((Xg HO.o hg).1) wQ.o)) (HB.o.trans (YN.below HB.o.size (λb q=>Qk wQ.o))) (ZN D7.o YN.size);go_wp2_with fail;refine Zo (S:=λx=>Kept (λb=>b≠M (H w)) w3 x) Qd (ZP ((Q9 (M (H w3)) w3).drew) (λ_ hl _=>hl)) (λp=>?_);refine wt 0 (Y (O (aD (M (H w1)) 0))) p ?_;refine wT 1 (I J e0) p (λx hx=>?_) ?_
   .have e0:=Xa z0 hx bE;go_simp
   refine wt 2 (Y (O (aD (M (H w1)) 1))) p ?_;refine wT 3 (I J e1) p (λx hx=>?_) ?_
   .have e0:=Xa z1 hx bE;go_simp
   refine wt 4 (Y (O (aD (M (H w)) 1))) p ?_;refine wR 5 λK r=>?_;go_simp;refine r.o _ _ (p.trans (Xd _ _ _ (λh=>h rfl))) (λp=>?_);refine wt 6 (Y (O (aD (M (H w)) 2))) p ?_;refine wR 7 λK r=>?_;go_simp;refine r.o _ _ YN λp=>?_;refine wD ?_;try simp only[pU]
   try rw[uC]
   have n4:=Eo.o.at 4;have n6:=Eo.o.at 6;go_wp2_with fail;refine Zo (S:=λx=>Kept (λb=>b≠M (H w)) w5 x) Qd (ZP ((Q9 (M (H w5)) w5).drew) (λ_ hl _=>hl)) (λp=>?_);refine wt 0 (Y (O (aD (M (H w)) 4))) p ?_;refine wt 3 (Y (O (aD (M (H w)) 6))) p ?_;have a:=(Q9 (M (H w5)) w5).drew;refine wJ 1 4 (λK r=>?_) λK r=>?_
   .skip;have lo:=cB a n4;go_simp;refine r.o _ _ p λp=>?_
    refine wJ 2 4 (λK r=>?_) λK r=>?_
    .skip;go_simp;refine XX (yA.o _ (C.o.trans (a.mono C.o.size))) ?_;rintro e wA ⟨vv,rfl,aa,B⟩;obtain⟨aF,oW,t,BQ⟩:=pW (Fq:=λb=>Fq b/\M (H w5)<=b) aa (Qk Sc.o) (λb q=>⟨wM.o b (ZN C.o.size (ZN a.size q)),ZN a.size q⟩);obtain⟨Q,W,yx⟩:=aF;simp only[ah.val]at oW t;subst oW;have t:=t.symm;subst t;have a:=a.trans (B.mono a.size);refine r.o _ _ (ZP a (λb q _=>q)) (λp=>?_);refine wR 4 λK r=>?_
     have lo:=cB a n6;go_simp;refine r.o _ _ p λp=>?_;refine wt 6 (Y (O (aD (M (H w)) 4))) p ?_;refine wR 5 λK r=>?_;go_simp;refine XX (xP.o _ (C.o.trans (a.mono C.o.size))) ?_;rintro e wB ⟨vv,rfl,aa,B⟩;obtain⟨aG,oW,A,YO⟩:=pW (Fq:=λb=>Fq b/\M (H w5)<=b) aa (Qk Sc.o) (λb q=>⟨wM.o b (ZN C.o.size (ZN a.size q)),ZN a.size q⟩);obtain⟨za,zc,zx⟩:=aG;simp only[ah.val]at oW A;subst oW;have A:=A.symm;subst A;have a:=a.trans (B.mono a.size);have BQ:=BQ.below B;refine r.o _ _ (ZP a (λb q _=>q)) (λp=>?_);have G:GB wB (M (H w)) 138 #[I J kind,I J e0,I J e1,I J src,Z ca (N cl) cc,I J key,Z da (N co) dc]:=Eo.o.of (a.block _ Eo.o.lt);have m4:=G.at 4;have f4:=G.frozen 4;have YP:=G.set 4 (Z Q (N cl) W);have m6:Qp (Qo wB (aD (M (H w)) 4) (Z Q (N cl) W)) (aD (M (H w)) 6)=O (Z da (N co) dc):=YP.cell 6;have f6:=YP.frozen 6;have af:=YP.set 6 (Z za (N co) zc);refine wR 7 λK r=>?_;go_simp;refine r.o _ _ (p.trans (Ji (g:=M (H w)) (j:=4) (Z Q (N cl) W))) (λp=>?_);refine wt 8 (Y (O (aD (M (H w)) 6))) p ?_;refine wR 9 λK r=>?_;go_simp;refine r.o _ _ (p.trans (Ji (g:=M (H w)) (j:=6) (Z za (N co) zc))) (λp=>?_);refine wD ?_;try simp only[pU]
     obtain⟨w6,oV⟩:=eX (Qo (Qo wB (aD (M (H w)) 4) (Z Q (N cl) W)) (aD (M (H w)) 6) (Z za (N co) zc));rw[oV]at af ⊢;have P:Kept (λb=>b≠M (H w)) wB w6:=by rw[<-oV];exact(Ji (g:=M (H w)) _).trans (Ji (g:=M (H w)) _)
     have uY:=(ZP a (λb q _=>q)).trans P;have ay:=Xf Cv.o uY (λg hg=>Ql ((Xg Cv.o hg).1) wQ.o);have ag:=C.o.trans (uY.below C.o.size (λb q=>Qk wQ.o));obtain⟨v7,w7,Ed,Sn,lZ,⟨qa,qm,qc,rfl⟩⟩:=yI w6 (M (H w2)) (Z xa (N (f sl)) xc) (f sl) ay (Qk (V7.o sl)) (ZN ax.o uY.size) ⟨kind,e0,e1,src,⟨Q,W,cl⟩,key,⟨za,zc,co⟩⟩ 60;simp only[ai.cells,ah.val]at Ed;have Yw:=Eo.o.lt;have d:∀b,(Value.slice xa (N (f sl)) xc).ownBlock=O b->M (H w2)<=b/\b<M (H w5):=λb e=>Xg Cv.o e;have aj:=((BQ.aV (P.mono λb _ h=>Qk h.2)).aV (lZ.mono λb _ h e=>Ql ((d b e).2) h.2)).mono λb _ h=>h.1;have ae:=((YO.aV (P.mono λb _ h=>Qk h.2)).aV (lZ.mono λb _ h e=>Ql ((d b e).2) h.2)).mono λb _ h=>h.1;have qy:=ag.trans (lZ.below ag.size (λb q e=>Ql ((d b e).1) wQ.o));have HF:Qn _:=lW.o w7 (Z qa qm qc) ⟨Q,W,cl⟩ ⟨za,zc,co⟩ qy (xD Sn (Qk wQ.o)) rfl rfl aj ae;obtain⟨t0,t1,t2,t3,t4,t5,t6⟩:=af.k7;go_wp2_with (first|(at_builtin;refine Xz rfl (.tmp 42) (.tmp 44) 60 rfl (Z xa (N (f sl)) xc) (Z (O (aD (M (H w6)) 0)) 1 1) (Z qa qm qc) w7 rfl rfl Ed ?_));go_wp2;go_ret;exact HF.o
    .skip;have lo:=cB a n6;go_simp;refine r.o _ _ p λp=>?_
     refine wR 2 λK r=>?_;go_simp;refine XX (yA.o _ (C.o.trans (a.mono C.o.size))) ?_;rintro e wA ⟨vv,rfl,aa,B⟩;obtain⟨aF,oW,t,BQ⟩:=pW (Fq:=λb=>Fq b/\M (H w5)<=b) aa (Qk Sc.o) (λb q=>⟨wM.o b (ZN C.o.size (ZN a.size q)),ZN a.size q⟩);obtain⟨Q,W,yx⟩:=aF;simp only[ah.val]at oW t;subst oW;have t:=t.symm;subst t;have a:=a.trans (B.mono a.size);refine r.o _ _ (ZP a (λb q _=>q)) (λp=>?_);refine wt 6 (Y (O (aD (M (H w)) 4))) p ?_;refine wR 5 λK r=>?_;go_simp;refine XX (xP.o _ (C.o.trans (a.mono C.o.size))) ?_;rintro e wB ⟨vv,rfl,aa,B⟩;obtain⟨aG,oW,A,YO⟩:=pW (Fq:=λb=>Fq b/\M (H w5)<=b) aa (Qk Sc.o) (λb q=>⟨wM.o b (ZN C.o.size (ZN a.size q)),ZN a.size q⟩);obtain⟨za,zc,zx⟩:=aG;simp only[ah.val]at oW A;subst oW;have A:=A.symm;subst A;have a:=a.trans (B.mono a.size);have BQ:=BQ.below B;refine r.o _ _ (ZP a (λb q _=>q)) (λp=>?_);have G:GB wB (M (H w)) 138 #[I J kind,I J e0,I J e1,I J src,Z ca (N cl) cc,I J key,Z da (N co) dc]:=Eo.o.of (a.block _ Eo.o.lt);have m4:=G.at 4;have f4:=G.frozen 4;have YP:=G.set 4 (Z Q (N cl) W);have m6:Qp (Qo wB (aD (M (H w)) 4) (Z Q (N cl) W)) (aD (M (H w)) 6)=O (Z da (N co) dc):=YP.cell 6;have f6:=YP.frozen 6;have af:=YP.set 6 (Z za (N co) zc);refine wR 7 λK r=>?_;go_simp;refine r.o _ _ (p.trans (Ji (g:=M (H w)) (j:=4) (Z Q (N cl) W))) (λp=>?_);refine wt 8 (Y (O (aD (M (H w)) 6))) p ?_;refine wR 9 λK r=>?_;go_simp;refine r.o _ _ (p.trans (Ji (g:=M (H w)) (j:=6) (Z za (N co) zc))) (λp=>?_);refine wD ?_;try simp only[pU]
     obtain⟨w6,oV⟩:=eX (Qo (Qo wB (aD (M (H w)) 4) (Z Q (N cl) W)) (aD (M (H w)) 6) (Z za (N co) zc));rw[oV]at af ⊢;have P:Kept (λb=>b≠M (H w)) wB w6:=by rw[<-oV];exact(Ji (g:=M (H w)) _).trans (Ji (g:=M (H w)) _)
     have uY:=(ZP a (λb q _=>q)).trans P;have ay:=Xf Cv.o uY (λg hg=>Ql ((Xg Cv.o hg).1) wQ.o);have ag:=C.o.trans (uY.below C.o.size (λb q=>Qk wQ.o));obtain⟨v7,w7,Ed,Sn,lZ,⟨qa,qm,qc,rfl⟩⟩:=yI w6 (M (H w2)) (Z xa (N (f sl)) xc) (f sl) ay (Qk (V7.o sl)) (ZN ax.o uY.size) ⟨kind,e0,e1,src,⟨Q,W,cl⟩,key,⟨za,zc,co⟩⟩ 60;simp only[ai.cells,ah.val]at Ed;have Yw:=Eo.o.lt;have d:∀b,(Value.slice xa (N (f sl)) xc).ownBlock=O b->M (H w2)<=b/\b<M (H w5):=λb e=>Xg Cv.o e;have aj:=((BQ.aV (P.mono λb _ h=>Qk h.2)).aV (lZ.mono λb _ h e=>Ql ((d b e).2) h.2)).mono λb _ h=>h.1;have ae:=((YO.aV (P.mono λb _ h=>Qk h.2)).aV (lZ.mono λb _ h e=>Ql ((d b e).2) h.2)).mono λb _ h=>h.1;have qy:=ag.trans (lZ.below ag.size (λb q e=>Ql ((d b e).1) wQ.o));have HF:Qn _:=lW.o w7 (Z qa qm qc) ⟨Q,W,cl⟩ ⟨za,zc,co⟩ qy (xD Sn (Qk wQ.o)) rfl rfl aj ae;obtain⟨t0,t1,t2,t3,t4,t5,t6⟩:=af.k7;go_wp2_with (first|(at_builtin;refine Xz rfl (.tmp 42) (.tmp 44) 60 rfl (Z xa (N (f sl)) xc) (Z (O (aD (M (H w6)) 0)) 1 1) (Z qa qm qc) w7 rfl rfl Ed ?_));go_wp2;go_ret;exact HF.o
   .skip;have lo:=cB a n6;go_simp;refine r.o _ _ p λp=>?_
    refine wR 1 λK r=>?_;have lo:=cB a n4;go_simp;refine r.o _ _ p λp=>?_;refine wR 2 λK r=>?_;go_simp;refine XX (yA.o _ (C.o.trans (a.mono C.o.size))) ?_;rintro e wA ⟨vv,rfl,aa,B⟩;obtain⟨aF,oW,t,BQ⟩:=pW (Fq:=λb=>Fq b/\M (H w5)<=b) aa (Qk Sc.o) (λb q=>⟨wM.o b (ZN C.o.size (ZN a.size q)),ZN a.size q⟩);obtain⟨Q,W,yx⟩:=aF;simp only[ah.val]at oW t;subst oW;have t:=t.symm;subst t;have a:=a.trans (B.mono a.size);refine r.o _ _ (ZP a (λb q _=>q)) (λp=>?_);refine wt 6 (Y (O (aD (M (H w)) 4))) p ?_;refine wR 5 λK r=>?_;go_simp;refine XX (xP.o _ (C.o.trans (a.mono C.o.size))) ?_;rintro e wB ⟨vv,rfl,aa,B⟩;obtain⟨aG,oW,A,YO⟩:=pW (Fq:=λb=>Fq b/\M (H w5)<=b) aa (Qk Sc.o) (λb q=>⟨wM.o b (ZN C.o.size (ZN a.size q)),ZN a.size q⟩);obtain⟨za,zc,zx⟩:=aG;simp only[ah.val]at oW A;subst oW;have A:=A.symm;subst A;have a:=a.trans (B.mono a.size);have BQ:=BQ.below B;refine r.o _ _ (ZP a (λb q _=>q)) (λp=>?_);have G:GB wB (M (H w)) 138 #[I J kind,I J e0,I J e1,I J src,Z ca (N cl) cc,I J key,Z da (N co) dc]:=Eo.o.of (a.block _ Eo.o.lt);have m4:=G.at 4;have f4:=G.frozen 4;have YP:=G.set 4 (Z Q (N cl) W);have m6:Qp (Qo wB (aD (M (H w)) 4) (Z Q (N cl) W)) (aD (M (H w)) 6)=O (Z da (N co) dc):=YP.cell 6;have f6:=YP.frozen 6;have af:=YP.set 6 (Z za (N co) zc);refine wR 7 λK r=>?_;go_simp;refine r.o _ _ (p.trans (Ji (g:=M (H w)) (j:=4) (Z Q (N cl) W))) (λp=>?_);refine wt 8 (Y (O (aD (M (H w)) 6))) p ?_;refine wR 9 λK r=>?_;go_simp;refine r.o _ _ (p.trans (Ji (g:=M (H w)) (j:=6) (Z za (N co) zc))) (λp=>?_);refine wD ?_;try simp only[pU]
    obtain⟨w6,oV⟩:=eX (Qo (Qo wB (aD (M (H w)) 4) (Z Q (N cl) W)) (aD (M (H w)) 6) (Z za (N co) zc));rw[oV]at af ⊢;have P:Kept (λb=>b≠M (H w)) wB w6:=by rw[<-oV];exact(Ji (g:=M (H w)) _).trans (Ji (g:=M (H w)) _)
    have uY:=(ZP a (λb q _=>q)).trans P;have ay:=Xf Cv.o uY (λg hg=>Ql ((Xg Cv.o hg).1) wQ.o);have ag:=C.o.trans (uY.below C.o.size (λb q=>Qk wQ.o));obtain⟨v7,w7,Ed,Sn,lZ,⟨qa,qm,qc,rfl⟩⟩:=yI w6 (M (H w2)) (Z xa (N (f sl)) xc) (f sl) ay (Qk (V7.o sl)) (ZN ax.o uY.size) ⟨kind,e0,e1,src,⟨Q,W,cl⟩,key,⟨za,zc,co⟩⟩ 60;simp only[ai.cells,ah.val]at Ed;have Yw:=Eo.o.lt;have d:∀b,(Value.slice xa (N (f sl)) xc).ownBlock=O b->M (H w2)<=b/\b<M (H w5):=λb e=>Xg Cv.o e;have aj:=((BQ.aV (P.mono λb _ h=>Qk h.2)).aV (lZ.mono λb _ h e=>Ql ((d b e).2) h.2)).mono λb _ h=>h.1;have ae:=((YO.aV (P.mono λb _ h=>Qk h.2)).aV (lZ.mono λb _ h e=>Ql ((d b e).2) h.2)).mono λb _ h=>h.1;have qy:=ag.trans (lZ.below ag.size (λb q e=>Ql ((d b e).1) wQ.o));have HF:Qn _:=lW.o w7 (Z qa qm qc) ⟨Q,W,cl⟩ ⟨za,zc,co⟩ qy (xD Sn (Qk wQ.o)) rfl rfl aj ae;obtain⟨t0,t1,t2,t3,t4,t5,t6⟩:=af.k7;go_wp2_with (first|(at_builtin;refine Xz rfl (.tmp 42) (.tmp 44) 60 rfl (Z xa (N (f sl)) xc) (Z (O (aD (M (H w6)) 0)) 1 1) (Z qa qm qc) w7 rfl rfl Ed ?_));go_wp2;go_ret;exact HF.o
