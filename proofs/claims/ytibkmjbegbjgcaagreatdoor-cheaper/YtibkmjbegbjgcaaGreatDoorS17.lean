import Derived.Test.YtibkmjbegbjgcaaGreatDoorS06
import Derived.Test.YtibkmjbegbjgcaaGreatDoorS11
import Derived.Test.YtibkmjbegbjgcaaGreatDoorS12
import Derived.Test.YtibkmjbegbjgcaaGreatDoorS14
set_option linter.all false
set_option maxRecDepth 100000
set_option maxHeartbeats 0
namespace Go.Proofs.Zz
open Go.RowKit Go.Shelf Go.Proofs.Tryz
open List renaming length->N,getD->E
open Go.Value renaming slice->Z,int->I,pointer->Y,bool->Qr,agg->Qu
open Go.Proofs.Tryz renaming prog->V
open Option renaming some->O,none->Qs
open Go.IntKind renaming i64->J,u64->Qq
open Bool renaming false->F,true->T
open Go renaming World->U,Value->Qm
open Go.World renaming heap->H,cell?->Qp
open _root_.Array renaming size->M
open Go.RowKit renaming Hid->Qn
open Go.Obj renaming cells->Qt
open Go.Ending renaming returned->Qv
variable {Fq Ft Mq Xq:Qz} {W0 w w' w0:U} {a base' gb n s sb:Nat} {A:Nat->Nat} {os:Qy ah} {g:Qy aj} {Tl Tn Tp Tq:TypeId} {lv u v v':Qm} {nv:Qy ai} {ls:Qy (Qm × Qy ai)} {l r t:aP} {q:ae} {bs:Qy (Nat × aP)} {ts:Qy af} {cl:Qx} {acc:Qy aP} {key:Int} {f:ay} {σ:fU}
def PtrTo(Tq:TypeId)(Fq:Qz)(w:U)(pv:Qm)(o:Option aP):Prop:=(o=Qs/\pv=Y Qs)∨∃t a,o=O t/\pv=Y (O (aD a 0))/\aF Tq Fq w a t
theorem FR(h:aW 141 161 Fq w gb A os g)(hl:N g<=20)(gc:Nat)(jg:Int) :
  Calls V 188 #[Z (O (aD gb 0)) (N g) gc,I J jg] w λe w'=>∃pv,e=Qv pv/\PtrTo 141 Fq w' pv (qU g jg)/\Bw w w':=by
 have S:=Bj h hl gc;obtain⟨f,Wl⟩:=eY (dA g);have Wm:Qn (∀k,k<N f->aF 141 Fq w (E (f.map λx=>A x.1) k 0) (E f k (0,mP)).2):=λk hk=>by
  have e1:E (f.map λx=>A x.1) k 0=A (f[k]).1:=Qb;have e2:E f k (0,mP)=f[k]:=Qb;rw[e1,e2];have n:f[k]∈dA g:=by rw[<-Wl];exact XO hk
  rcases ll g [] _ n with h0|⟨p,hp,e⟩
  .cases h0
  .exact h.tree p hp _ e
 have aa:Qn (∀k,k<N f->(f.take (k+1)).foldl (nK jg) Qs=nK jg ((f.take k).foldl (nK jg) Qs) (E f k (0,mP))):=λk hk=>gF _ _ f (0,mP) hk;have Np:Qn ((f.take (N f)).foldl (nK jg) Qs=qU g jg):=by show _=_;rw[ZJ,Wl];rfl
 have yV:Qn (N f<=20):=by show _<=_;rw[Wl];have:=rG g (N g);rw[ZJ]at this;omega
 have B:Qn (N (f.map λx=>A x.1)=N f):=ZH _;rw[<-Wl]at S;clear h Wl;generalize qU g jg=R at*;obtain⟨l,D⟩:=eY (λk=>(f.take k).foldl (nK jg) Qs:Nat->Option aP);obtain⟨u,U2⟩:=eY (λk=>(E f k (0,mP)).2:Nat->aP);have ax:Qn (∀k,k<N f->aF 141 Fq w (E (f.map λx=>A x.1) k 0) (u k)):=by rw[U2];exact Wm.o
 have Nn:Qn (∀k,k<N f->l (k+1)=if (aO (u k).d.order [jg]&&(match l k with|none=>T|some y=>decide ((u k).d.cost<y.d.cost)))=T then O (u k) else l k):=λk hk=>by have:=aa.o k hk;rw[D,U2];exact this
 have ay:Qn (l (N f)=R):=by rw[D];exact Np.o
 have az:Qn (l 0=Qs):=by rw[D];rfl
 clear D U2 Wm aa Np;generalize (f.map λx=>A x.1)=xs,N f=pl at*;clear f;go_enter func188,ntmps188;go_wp2_with fail;refine S.mono ?_;rintro e w1 ⟨v1,rfl,af,ag⟩;clear S;have aB:=yV.o;obtain⟨xa,xc,rfl,ai,-⟩:=lL af (by rw[B.o];omega);rw[B.o];obtain⟨RQ,ak⟩:=aS ai ag;clear af ai ag;go_wp2;go_loopw [5,11] (λpv iv wr=>∃k:Nat,k<=pl/\iv=I J (k:Int)/\Qn (PtrTo 141 Fq w pv (l k))/\Qn (Bw w1 wr)) (λ_ iv _=>pl-(intOf iv).toNat)
 case atStart=>exact⟨0,ZB _,rfl,.inl ⟨az.o,rfl⟩,Q9 _ _⟩
 case round=>
  obtain⟨k,hk,rfl,v,z⟩:=hrel;have q:=ak.o.trans (z.o.mono ak.o.size);by_cases G:k<pl
  .obtain⟨bb,M5,rfl,au⟩:=dh.get (RQ.o.below z.o) (i:=k) (by rw[B.o];exact G);have t:=au k (by rw[B.o];exact G);have C:=ax.o k G;obtain⟨p,hP,yh⟩:=(C.below q).kI;have FL:=Nn.o k G;obtain⟨x,b⟩:=eY (E xs k 0)
   rw[<-b]at t hP C;have HX:=Zh C;have eo:p.order.xs=(u k).d.order:=congrArg bW.order yh;have ec:p.cost=(u k).d.cost:=congrArg bW.cost yh;rw[<-eo,<-ec]at FL;have L:Qn (∀y c,Bw wr y->Qp y (aD c 0)=O (I J jg)->Cb 161 #[Z p.order.ad (N p.order.xs) p.order.cap,Z (O (aD c 0)) 1 1] y (Qr (aO p.order.xs [jg]))):=λy c hy hc=>
    iY p.order.ad (O (aD c 0)) p.order.cap 1 p.order.xs [jg] y (Q8 hy hP.ok.order) ⟨Qa,λi hi=>⟨c,0,rfl,by
     grind⟩⟩ hP.ok.cap
   have P:Qp wr (aD x 3)=O (Z p.order.ad (N p.order.xs) p.order.cap):=hP.c3;have c5:=hP.c5;generalize N p.order.xs=U5,p.order.ad=U6,p.order.cap=U7,aO p.order.xs [jg]=SB,p.cost=cx at*;obtain⟨HS,jE⟩:=aS FL q;clear au b hP yh C eo ec FL q p;obtain⟨wq,aA⟩:=eY (wr);subst aA
   cases SB with
   |false =>
    have Q:Qn (l (k+1)=l k):=HS.o;rw[<-Q.o]at v;rcases v.o with⟨-,rfl⟩|⟨t0,r,-,rfl,-⟩
    .go_wp2_with fail;refine wH wq λa=>?_
     refine wT 0 (Y (O (aD x 0))) a (λx b=>?_) ?_
     .go_simp
     refine wT 1 (Y (O (aD x 0))) a (λx b=>?_) ?_
     .go_simp
     refine wT 2 (Y (O (aD x 0))) a (λx b=>?_) ?_
     .go_simp
     refine wT 3 (Y (O (aD x 3))) a (λx b=>?_) ?_
     .go_simp
     refine wT 4 (Z U6 U5 U7) a (λx b=>?_) ?_
     .have e0:=cB b P;go_simp
     refine wT 5 (I J jg) a (λx b=>?_) ?_
     .go_simp
     refine wR 6 λK j=>?_;go_simp;refine oA j a λa=>?_;clear j K;refine wR 7 λK j=>?_;go_simp;refine XX (L.o _ _ a Qa) ?_;rintro e w2 ⟨rfl,hb⟩;refine oT j a hb λa=>?_;clear j K;refine wT 8 (Qr F) a (λx b=>?_) ?_
     .go_simp
     simp only[Act.put,Zt,Zu,Zv,Zn,QW,QX];refine wU 9 a ?_;refine wU 10 a ?_;refine wU 11 a ?_;refine wU 12 a ?_;refine wU 13 a ?_;refine wU 14 a ?_;refine wU 15 a ?_;refine wU 16 a ?_;refine wU 17 a ?_;refine wU 18 a ?_;refine wU 19 a ?_;refine wU 20 a ?_;refine wU 21 a ?_;refine wU 22 a ?_;refine wU 23 a ?_;refine wG 24 (Qr F) a (λx b=>?_) ?_
     .go_simp
     refine wD ?_;try simp only[Act.put,Zt,Zu,Zv,Zn,QW,QX]
     try simp only[Act.put,Zt,Zu,Zv,Zn,QW,QX]
     have m:=Zh (z.o.trans (a.mono z.o.size));clear a;clear P c5 t L;try clear r5
     go_wp2;go_roundw
     case rel=>exact⟨k+1,X,Qe,v.o,m.o⟩
     case measure=>exact XK
    .go_wp2_with fail;refine wH wq λa=>?_
     refine wT 0 (Y (O (aD x 0))) a (λx b=>?_) ?_
     .go_simp
     refine wT 1 (Y (O (aD x 0))) a (λx b=>?_) ?_
     .go_simp
     refine wT 2 (Y (O (aD x 0))) a (λx b=>?_) ?_
     .go_simp
     refine wT 3 (Y (O (aD x 3))) a (λx b=>?_) ?_
     .go_simp
     refine wT 4 (Z U6 U5 U7) a (λx b=>?_) ?_
     .have e0:=cB b P;go_simp
     refine wT 5 (I J jg) a (λx b=>?_) ?_
     .go_simp
     refine wR 6 λK j=>?_;go_simp;refine oA j a λa=>?_;clear j K;refine wR 7 λK j=>?_;go_simp;refine XX (L.o _ _ a Qa) ?_;rintro e w2 ⟨rfl,hb⟩;refine oT j a hb λa=>?_;clear j K;refine wT 8 (Qr F) a (λx b=>?_) ?_
     .go_simp
     simp only[Act.put,Zt,Zu,Zv,Zn,QW,QX];refine wU 9 a ?_;refine wU 10 a ?_;refine wU 11 a ?_;refine wU 12 a ?_;refine wU 13 a ?_;refine wU 14 a ?_;refine wU 15 a ?_;refine wU 16 a ?_;refine wU 17 a ?_;refine wU 18 a ?_;refine wU 19 a ?_;refine wU 20 a ?_;refine wU 21 a ?_;refine wU 22 a ?_;refine wU 23 a ?_;refine wG 24 (Qr F) a (λx b=>?_) ?_
     .go_simp
     refine wD ?_;try simp only[Act.put,Zt,Zu,Zv,Zn,QW,QX]
     try simp only[Act.put,Zt,Zu,Zv,Zn,QW,QX]
     have m:=Zh (z.o.trans (a.mono z.o.size));clear a;clear P c5 t L;try clear r5
     go_wp2;go_roundw
     case rel=>exact⟨k+1,X,Qe,v.o,m.o⟩
     case measure=>exact XK
   |true =>
    rcases v.o with⟨n,rfl⟩|⟨t0,r,n,rfl,hr⟩
    .have Q:Qn (l (k+1)=O (u k)):=by grind
     have W:Qn (PtrTo 141 Fq w (Y (O (aD x 0))) (l (k+1))):=.inr ⟨u k,x,Q.o,rfl,HX.o⟩;clear n HS Q v;go_wp2_with fail;refine wH wq λa=>?_;refine wT 0 (Y (O (aD x 0))) a (λx b=>?_) ?_
     .go_simp
     refine wT 1 (Y (O (aD x 0))) a (λx b=>?_) ?_
     .go_simp
     refine wT 2 (Y (O (aD x 0))) a (λx b=>?_) ?_
     .go_simp
     refine wT 3 (Y (O (aD x 3))) a (λx b=>?_) ?_
     .go_simp
     refine wT 4 (Z U6 U5 U7) a (λx b=>?_) ?_
     .have e0:=cB b P;go_simp
     refine wT 5 (I J jg) a (λx b=>?_) ?_
     .go_simp
     refine wR 6 λK j=>?_;go_simp;refine oA j a λa=>?_;clear j K;refine wR 7 λK j=>?_;go_simp;refine XX (L.o _ _ a Qa) ?_;rintro e w2 ⟨rfl,hb⟩;refine oT j a hb λa=>?_;clear j K;refine wT 8 (Qr T) a (λx b=>?_) ?_
     .go_simp
     simp only[Act.put,Zt,Zu,Zv,Zn,QW,QX];refine wG 9 (Y Qs) a (λx b=>?_) ?_
     .go_simp
     refine wG 10 (Qr T) a (λx b=>?_) ?_
     .go_simp
     refine wG 11 (Qr T) a (λx b=>?_) ?_
     .go_simp
     simp only[Act.put,Zt,Zu,Zv,Zn,QW,QX];refine wU 12 a ?_;refine wU 13 a ?_;refine wU 14 a ?_;refine wU 15 a ?_;refine wU 16 a ?_;refine wU 17 a ?_;refine wU 18 a ?_;refine wU 19 a ?_;refine wU 20 a ?_;refine wU 21 a ?_;refine wU 22 a ?_;refine wG 23 (Qr T) a (λx b=>?_) ?_
     .go_simp
     refine wG 24 (Qr T) a (λx b=>?_) ?_
     .go_simp
     refine wD ?_;try simp only[Act.put,Zt,Zu,Zv,Zn,QW,QX]
     try simp only[Act.put,Zt,Zu,Zv,Zn,QW,QX]
     have m:=Zh (z.o.trans (a.mono z.o.size));clear a;clear P c5 t L;try clear r5
     go_wp2;go_roundw
     case rel=>grind
     case measure=>exact XK
    .obtain⟨pr,Sr,av⟩:=(hr.below jE.o).kI;have er:pr.cost=t0.d.cost:=congrArg bW.cost av;have Q:Qn (l (k+1)=if cx<pr.cost then O (u k) else l k):=by grind
     have r5:=Sr.c5;generalize pr.cost=cr at*;clear Sr av er n HS hr pr;by_cases hc:cx<cr
     case' pos=>
      have HC:=Zh hc;have W:Qn (PtrTo 141 Fq w (Y (O (aD x 0))) (l (k+1))):=.inr ⟨u k,x,by rw[Q.o,Zb hc],rfl,HX.o⟩
     case' neg=>
      have HC:=Zh (Nat.le_of_not_lt hc);have W:Qn (PtrTo 141 Fq w (Y (O (aD r 0))) (l (k+1))):=by show PtrTo _ _ _ _ _;rw[Q.o,Zg hc];exact v.o
     all_goals
      clear hc Q v;go_wp2_with fail;refine wH wq λa=>?_;refine wT 0 (Y (O (aD x 0))) a (λx b=>?_) ?_
      .go_simp
      refine wT 1 (Y (O (aD x 0))) a (λx b=>?_) ?_
      .go_simp
      refine wT 2 (Y (O (aD x 0))) a (λx b=>?_) ?_
      .go_simp
      refine wT 3 (Y (O (aD x 3))) a (λx b=>?_) ?_
      .go_simp
      refine wT 4 (Z U6 U5 U7) a (λx b=>?_) ?_
      .have e0:=cB b P;go_simp
      refine wT 5 (I J jg) a (λx b=>?_) ?_
      .go_simp
      refine wR 6 λK j=>?_;go_simp;refine oA j a λa=>?_;clear j K;refine wR 7 λK j=>?_;go_simp;refine XX (L.o _ _ a Qa) ?_;rintro e w2 ⟨rfl,hb⟩;refine oT j a hb λa=>?_;clear j K;refine wT 8 (Qr T) a (λx b=>?_) ?_
      .go_simp
      simp only[Act.put,Zt,Zu,Zv,Zn,QW,QX];refine wG 9 (Y (O (aD r 0))) a (λx b=>?_) ?_
      .go_simp
      refine wG 10 (Qr F) a (λx b=>?_) ?_
      .go_simp
      refine wG 11 (Qr F) a (λx b=>?_) ?_
      .go_simp
      simp only[Act.put,Zt,Zu,Zv,Zn,QW,QX];refine wG 12 (Y (O (aD x 0))) a (λx b=>?_) ?_
      .go_simp
      refine wG 13 (Y (O (aD x 0))) a (λx b=>?_) ?_
      .go_simp
      refine wG 14 (Y (O (aD x 0))) a (λx b=>?_) ?_
      .go_simp
      refine wG 15 (Y (O (aD x 5))) a (λx b=>?_) ?_
      .go_simp
      refine wG 16 (I Qq (cx:Int)) a (λx b=>?_) ?_
      .have e0:=cB b c5;go_simp
      refine wG 17 (Y (O (aD r 0))) a (λx b=>?_) ?_
      .go_simp
      refine wG 18 (Y (O (aD r 0))) a (λx b=>?_) ?_
      .go_simp
      refine wG 19 (Y (O (aD r 0))) a (λx b=>?_) ?_
      .go_simp
      refine wG 20 (Y (O (aD r 5))) a (λx b=>?_) ?_
      .go_simp
      refine wG 21 (I Qq (cr:Int)) a (λx b=>?_) ?_
      .have e0:=cB b r5;go_simp
      first|(refine wG 22 (Qr T) a (λx b=>?_) ?_;· go_simp;exact HC.o)|(refine wG 22 (Qr F) a (λx b=>?_) ?_;· go_simp;exact HC.o)
      first|(refine wG 23 (Qr T) a (λx b=>?_) ?_;· go_simp)|(refine wG 23 (Qr F) a (λx b=>?_) ?_;· go_simp)
      first|(refine wG 24 (Qr T) a (λx b=>?_) ?_;· go_simp)|(refine wG 24 (Qr F) a (λx b=>?_) ?_;· go_simp)
      refine wD ?_;try simp only[Act.put,Zt,Zu,Zv,Zn,QW,QX]
      try simp only[Act.put,Zt,Zu,Zv,Zn,QW,QX]
      have m:=Zh (z.o.trans (a.mono z.o.size));clear a;clear P c5 t L;try clear r5
      go_wp2;go_roundw
      case rel=>exact⟨k+1,X,Qe,W.o,m.o⟩
      case measure=>exact XK
  .have ae:pl=k:=X
   rw[<-ae,ay.o]at v;have HF:=Zh q;clear ae q;rcases v.o with⟨n,rfl⟩|⟨t0,r,n,rfl,hr⟩
   .have HM:=Zh n;clear n;go_wp2;go_ret;exact⟨_,rfl,.inl ⟨HM.o,rfl⟩,HF.o⟩
   .obtain⟨HM,HR⟩:=aS n hr;clear n hr;go_wp2;go_ret;exact⟨_,rfl,.inr ⟨t0,r,HM.o,rfl,HR.o.below HF.o⟩,HF.o⟩
theorem acH{n:ai}:∀{ls:Qy (Qy ai)},N ls<=2->∀l∈ls,N l<=N (pF n ls)/\∀m∈l,∃m'∈pF n ls,m'.kind=m.kind
 |[],_,l,h=>by cases h
 |[a],_,l,h=>by rw[Xj]at h;subst h;refine⟨by simp[pF,fw],λm hm=>⟨bO 0 m,?_,rfl⟩⟩;unfold pF fw;simp;exact .inl ⟨m,hm,rfl⟩
 |[a,b],_,l,h=>by
  rcases List.mem_cons.1 h with h|h
  .subst h;refine⟨by simp[pF,fw] <;> omega,λm hm=>⟨bO 0 m,?_,rfl⟩⟩;unfold pF fw;simp;exact .inl ⟨m,hm,rfl⟩
  .rw[Xj]at h;subst h;refine⟨by simp[pF,fw] <;> omega,λm hm=>⟨bO (N a) m,?_,rfl⟩⟩;unfold pF fw
   grind
 |_::_::_::_,h,_,_=>by simp at h
theorem eU.pushed{base:Nat}(h:eU Tn (Fv Fq v) base w u nv)(hk:Kept (λb=>v.ownBlock≠O b) w w')(hat:v'.ownBlock=v.ownBlock∨∃g,v'.ownBlock=O g/\M (H w)<=g):eU Tn (Fv Fq v') base w' u nv:=by
 have f:=h.mono (G:=λb=>Fv Fq v b/\Fv Fq v' b) (λb d a=>⟨a,a.1,λe=>by
  rcases hat with h|⟨g,h,i⟩
  .exact a.2 (h ▸ e)
  grind⟩)
 exact(f.aV (hk.mono λb _ d=>d.1.2)).mono λ_ _ h=>h.2
structure uZ(Tl Tn:TypeId)(Fq:Qz)(base:Nat)(w:U)(v:Qm)(ls:Qy (Qm × Qy ai)):Prop where
 own:w.ownsRow base Tl 1 v (N ls) (ls.map Prod.fst)
 node:∀x∈ls,∃b,eU Tn (Fv Fq v) b w x.1 x.2
theorem uZ.slices{base:Nat}(h:uZ Tl Tn Fq base w v ls):∃b cap,v=Z b (N ls) cap/\BO w b (ls.map Prod.fst):=by
 rcases XF h.own with⟨rfl,h1⟩|⟨g,cap,rfl,_,_,hc⟩
 .refine⟨Qs,0,by rw[h1],λi a=>?_⟩;rw[ZH]at a;omega
 .refine⟨O (aD g 0),cap,rfl,λi a=>⟨g,0,rfl,?_⟩⟩
  grind
theorem uZ.push{base:Nat}(h:uZ Tl Tn Fq base w0 v ls)(hb:Bw w0 w)(hu:eU Tn (Fv Fq v) base' w u nv)
  (ho:w'.ownsRow base Tl 1 v' (N (ls.map Prod.fst++[u])) (ls.map Prod.fst++[u])) (hk:Kept (λb=>v.ownBlock≠O b) w w') (hat:v'.ownBlock=v.ownBlock∨∃g,v'.ownBlock=O g/\M (H w)<=g):uZ Tl Tn Fq base w' v' (ls++[(u,nv)]):=by
 refine⟨?_,λx a=>?_⟩
 .grind
 .rcases Xk.1 a with a|a
  .obtain⟨b,d⟩:=h.node x a;exact⟨b,(d.below hb).pushed hk hat⟩
  .rw[Xj]at a;rw[a];exact⟨base',hu.pushed hk hat⟩
def Tryz.TP:(V.info? 60).map (λi=>(i.zero,i.size,i.bytes))=O (O (Z Qs 0 0),1,24):=Qd
theorem TQ(W:U)(base:Nat)(v:Qm)(vs:Qy Qm)(hown:W.ownsRow base 60 1 v (N vs) vs)(hl:N vs<=1000)(hb:base<=M (H W))(a:PN)(m c:Nat)(ty:TypeId) :
  ∃d w',(Builtin.append_ #[181,181] ty #[v,Z (O (aD (M (H W)) 0)) 1 1]).run V (W.alloc (Qt #[Z a m c] 60))=.ok d w'/\
   w'.ownsRow base 60 1 d (N (vs++[(Value.slice a m c)])) (vs++[(Value.slice a m c)])/\Kept (λb=>v.ownBlock≠O b) W w'/\(∃a m c,d = Z a m c)/\(d.ownBlock=v.ownBlock∨d.ownBlock=O (M (H W)+1)):=by
 obtain⟨j,k,e,f,g⟩:=Xl Tryz.TP;obtain⟨d,w',n,p,q,r,l⟩:=iq (P:=V) W base 181 ty 60 j _ 1 24 underlying181 k e f g rfl Qc v (N vs) _ hown hb [.slice a m c] rfl (λu i=>by
  rw[Xj]at i;rw[i];rfl) hl Qc
 grind
theorem Og(k:Nat)(IH:∀{Ft:Qz} {w:U} {a:Nat} {t:aP},lI 141 Ft k w a t->bM w 0->(∀m∈t.ns,1<=m.kind/\m.kind<=10)->N t.ns<=900->∀{Fq:Qz},(∀b,M (H w)<=b->Fq b)->Calls V 63 #[Y (O (aD a 0))] w (iA 138 Fq w t.ns))
  (ht:lI 141 Ft (k+1) w a t) (hs:bM w 0) (hkd:∀m∈t.ns,1<=m.kind/\m.kind<=10) (hln:N t.ns<=900) (hF:∀b,M (H w)<=b->Fq b):Calls V 63 #[Y (O (aD a 0))] w (iA 138 Fq w t.ns):=by
 obtain⟨p,n,bo,bc,bs,d,hx⟩:=ht;have q:=acH (n:=n) (ls:=bs.map λx=>x.2.ns) (by rw[ZH];exact d.two);rw[<-d.lay]at q;have aa:Qn (∀(x:U) (G:Qz) (i:Nat),i<N bs->Bw w x->(∀b,M (H x)<=b->G b)->Calls V 63 #[Y (O (aD (E (bs.map Prod.fst) i 0) 0))] x (iA 138 G x (E ((bs.map λx=>x.2.ns)) i []))):=λx G i hi A hG=>by
  have e1:E (bs.map Prod.fst) i 0=(bs[i]).1:=Qb;have e2:E (bs.map λx=>x.2.ns) i []=(bs[i]).2.ns:=Qb;rw[e1,e2];have hm:(bs[i]).2.ns∈bs.map λx=>x.2.ns:=ZL.2 ⟨_,XO hi,rfl⟩;obtain⟨h1,h2⟩:=q _ hm;exact IH ((hx _ (XO hi)).aV (ZP A λ_ h _=>h)) (hs.below A) (λm aF=>by
   obtain⟨m',D,e⟩:=h2 m aF;rw[<-e];exact hkd m' D) X hG
 have Fe:Qn (∀(x:U) (G:Qz) (io:PN) (ic:Nat) (ls:Qy (Qm × Qy ai)),Bw w x->(∀b,M (H x)<=b->G b)->BO x io (ls.map Prod.fst)->(ls.map λx=>x.2.map dM)=(bs.map λx=>x.2.ns)->(∀y∈ls,∃base,eU 138 G base x y.1 y.2)->
   Calls V 103 #[Qu n.cells,Z io (N ls) ic] x (iA 138 G x t.ns)):=λx G io ic ls A hG tY he C=>by
  have hl:N ls=N bs:=by have:=congrArg N he;simpa using this
  rw[d.lay,<-he];refine YM hG (hs.below A) n (Q8 A d.cl) d.cln (Q8 A d.co) d.con d.lens io ic ls tY (λy hy=>⟨C y hy,λm hm=>?_⟩) (by rw[hl];exact d.two) ?_
  .have az:y.2.map dM∈bs.map λx=>x.2.ns:=Qb
   obtain⟨m',D,e⟩:=(q _ az).2 (dM m) (ZL.2 ⟨m,hm,rfl⟩);have:=hkd m' D;rw[e]at this;exact this
  .have h1:N (fw (ls.map Prod.snd))=N (fw (bs.map λx=>x.2.ns)):=by rw[<-he,<-ZH (f:=dM),yH,List.map_map];rfl
   rw[h1];have h2:N t.ns=N (fw (bs.map λx=>x.2.ns))+1:=by rw[d.lay];unfold pF;simp
   omega
 have aG:=d.gb.at 13;have n0:=d.gb.at 6;have n1:=d.gb.at 7;have n2:=d.gb.at 8;have n3:=d.gb.at 9;have n4:=d.gb.at 10;have n5:=d.gb.at 11;have n6:=d.gb.at 12;have RQ:=Zh d.ptrs;have aH:=d.two;have vC:Qn (N (bs.map Prod.fst)=N bs):=ZH _;have ae:Qn (N (bs.map λx=>x.2.ns)=N bs):=ZH _;have wM:=Zh hF;clear d hx q IH hs hkd hln hF;generalize t.ns=R,bs.map Prod.fst=bf,(bs.map λx=>x.2.ns)=NS,N bs=bl at*;clear bs;obtain⟨kind,nl,nr,src,⟨ca,cc,cl⟩,key,⟨da,dc,co⟩⟩:=n;simp only[ai.cells,ah.val]at*;go_enter func63,ntmps63;go_wp2;go_loopw [3,11] (λpv iv wr=>∃(j:Nat) (ls:Qy (Qm × Qy ai)),j<=bl/\iv=I J (j:Int)/\Qn ((ls.map λx=>x.2.map dM)=NS.take j)/\Qn (uZ 60 138 Fq (M (H w)) wr pv ls)/\Qn (Bw w wr)) (λ_ iv _=>bl-(intOf iv).toNat)
 case atStart=>exact⟨0,[],ZB _,rfl,rfl,⟨Xm _ _ _ _,(λx hx=>by cases hx)⟩,Q9 _ _⟩
 case round=>
  obtain⟨j,ls,hj,rfl,HE,K,r⟩:=hrel;obtain⟨L,xm,P,rfl⟩:=Xh K.o.own;have l:∀g,(Value.slice L xm P).ownBlock=O g->M (H w)<=g/\g<M (H wr):=λg e=>Xg K.o.own e;by_cases B:j<bl
  .obtain⟨bb,M5,rfl,ak⟩:=dh.get (RQ.o.below r.o) (i:=j) (by rw[vC.o];exact B);have aA:=ak j (by rw[vC.o];exact B);have af:=aa.o wr (Fv Fq (Z L xm P)) j B r.o (λb A=>⟨wM.o b (ZN r.o.size A),λe=>Qk ((l b e).2)⟩);obtain⟨RU,Q⟩:=aS (Jf NS [] (by rw[ae.o];exact B)) l;generalize E bf j 0=ba,E NS j []=Nj at*;clear ak l;go_wp2_with fail;refine af.mono ?_;rintro e w3 ⟨v3,nv,rfl,z,S,u⟩;clear af aA;obtain⟨ya,ym,yc,rfl⟩:=Xh S.own;have C:N ls<=2:=by have:=congrArg N HE.o;rw[ZH,XT]at this;omega
   have ag:w3.ownsRow (M (H w)) 60 1 (Z L xm P) (N (ls.map Prod.fst)) (ls.map Prod.fst):=by rw[ZH];exact Xf K.o.own (ZP (s:=λb=>b<M (H wr)) u (λb _ h=>h)) (λg hg=>(Q.o g hg).2)
   obtain⟨v4,w4,au,yD,W,⟨za,zm,zc,rfl⟩,av⟩:=TQ w3 (M (H w)) (Z L xm P) (ls.map Prod.fst) ag (by rw[ZH];omega) (ZN r.o.size u.size) ya ym yc 181;have aI:=Zh (uZ.push K.o u S yD W (av.imp id (λe=>⟨_,e,X⟩)));have aJ:Qn (((ls++[((Z ya ym yc:Qm),nv)]).map λx=>x.2.map dM)=NS.take (j+1)):=by show _=_;rw[Q5,HE.o,RU.o,List.map_singleton,z]
   have rf:=Zh ((r.o.trans (u.mono r.o.size)).trans (W.below (ZN r.o.size u.size) (λb A e=>Qk ((Q.o b e).1))));clear z S u ag yD W av K HE RU Q C;go_wp2_with (first|(at_builtin;refine Xz rfl (.tmp 15) (.tmp 18) 181 rfl (Z L xm P) (Z (O (aD (M (H w3)) 0)) 1 1) (Z za zm zc) w4 rfl rfl au ?_));clear au;go_wp2;go_roundw
   case rel=>grind
   case measure=>exact XK
  .have aB:bl=j:=X
   subst aB;rw[XQ (by rw[ae.o];exact Za _)]at HE;obtain⟨w3,aC⟩:=eY (wr);subst aC;obtain⟨ya,yc,hy,ax⟩:=K.o.slices;simp only[Value.slice.injEq]at hy;obtain⟨rfl,rfl,rfl⟩:=hy;have aj:=Fe.o w3 (Fv Fq (Z L (N ls) P)) L P ls r.o (λb A=>⟨wM.o b (ZN r.o.size A),λe=>Qk ((l b e).2)⟩) ax HE.o (λy hy=>K.o.node y hy);obtain⟨d0,d1,d2,d3,d4⟩:=jW r.o n0 n1 n2 n3 n4;obtain⟨d5,d6⟩:=jf r.o n5 n6;clear Fe aa ax l B hj;go_wp2_with fail;refine aj.mono ?_;rintro e w4 ⟨v,nv,rfl,z,hK,ay⟩;have HF:Qn (iA 138 Fq w R (Qv v) w4):=⟨v,nv,rfl,z,⟨xD hK.own r.o.size,λg hg=>(hK.blk g hg).1,(hK.mono (λb _ h=>h.1)).lists⟩,r.o.trans (ay.mono r.o.size)⟩;obtain⟨va,vm,vc,rfl⟩:=Xh hK.own;clear aj z hK ay;go_wp2;go_ret;exact HF.o
def Pq:∀(k:Nat) {Ft:Qz} {w:U} {a:Nat} {t:aP},lI 141 Ft k w a t->bM w 0->(∀m∈t.ns,1<=m.kind/\m.kind<=10)->N t.ns<=900->∀{Fq:Qz},(∀b,M (H w)<=b->Fq b)->Calls V 63 #[Y (O (aD a 0))] w (iA 138 Fq w t.ns)
 |0,_,_,_,_,h,_,_,_,_,_=>h.elim
 |k+1,_,_,_,_,h,hs,hk,hl,_,hF=>Og k (Pq k) h hs hk hl hF
def TU(h:aF 141 Ft w a t)(hs:bM w 0)(ht:iP q t)(hl:N t.ns<=900)(hF:∀b,M (H w)<=b->Fq b):Calls V 63 #[Y (O (aD a 0))] w (iA 138 Fq w t.ns):=by obtain⟨k,d⟩:=h;exact Pq k d hs ht.kinds hl hF
theorem SC(ts:Qy af)(q:ae)(l r:aP)(g:Qy aj)(cl:Qx)(acc:Qy aP)(key:Int):N (fP ts q l r g cl acc key)<=N acc+2:=by unfold fP;grind
def uV(ts:Qy af)(q:ae)(l r:aP)(g:Qy aj)(cl:Qx):∀(ks:Qx) (acc:Qy aP),N (ks.foldl (fP ts q l r g cl) acc)<=N acc+2*N ks
 |[],_=>Qa
 |k::ks,acc=>by refine ZN (uV ts q l r g cl ks _) ?_;have:=SC ts q l r g cl acc k;simp only[ZK];omega
theorem WK(s:Nat):N (dw s)<=64:=by unfold dw aR;grind
def Eh(h:s<2 ^ n)(hn:n<=64):N (dw s)<=n:=by
 unfold dw aR;rw[ZH];have d:∀m,N ((List.range m).filter λi=>s.testBit i)<=min m n:=by
  intro m
  induction m with
  |zero=>simp
  |succ m ih =>
   rw[ZE,List.filter_append,ZG];by_cases a:s.testBit m=T
   .have e:m<n:=by
     by_cases b:m<n
     .exact b
     .rw[Zx (Zy h (ZA X X))]at a
      cases a
    simp[a];omega
   .simp[a];omega
 exact ZN (d 64) X
def bV.base{base:Nat}(h:bV Tq Tp Fq base w v bs)(hb:base'<=base):bV Tq Tp Fq base' w v bs:=
 ⟨mr h.own hb,λx a=>⟨(h.tree x a).1,ZN hb (h.tree x a).2.1,(h.tree x a).2.2⟩,h.rise⟩
def bV.fz{base:Nat}(h:bV Tq Tp Fq base w v bs)(hz:Fz Fq W0 w)(hb:M (H W0)<=base):Fz (Fv Fq v) W0 w:=hz.own λg e=>⟨ZN hb (Xg h.own e).1,(Xg h.own e).2⟩
def bV.mono{Tq Tp:TypeId}{Fq G:Qz}{base:Nat}{w:U}{v:Qm}{bs:Qy (Nat × aP)}(h:bV Tq Tp Fq base w v bs)(hs:∀b,b<M (H w)->Fq b->G b):bV Tq Tp G base w v bs:=
 ⟨h.own,λx a=>⟨(h.tree x a).1.mono (λb e d=>⟨hs b e d.1,d.2⟩),(h.tree x a).2⟩,h.rise⟩
def bV.ajL{s:Qz}{base:Nat}(h:bV Tq Tp Fq base w v bs)(hk:Kept s w w')(hF:∀b,Fq b->s b)(hv:∀g,v.ownBlock=O g->s g):bV Tq Tp Fq base w' v bs:=
 ⟨Xf h.own hk hv,λx a=>⟨(h.tree x a).1.aV (hk.mono λb _ d=>hF b d.1),(h.tree x a).2.1,Zy (h.tree x a).2.2 hk.size⟩,h.rise⟩
def WL(h:(iF ts q (dF 4 cl key) l.d.sources r.d.sources).2.2=F):fP ts q l r g cl acc key=acc:=by unfold fP;simp only;rw[h];rfl
def Nv(h:(iF ts q (dF 4 cl key) l.d.sources r.d.sources).2.2=T)(hm:qU g (iF ts q (dF 4 cl key) l.d.sources r.d.sources).2.1=Qs):fP ts q l r g cl acc key=acc++[au ts q (dF 4 cl key) [l,r]]:=by unfold fP;simp only;rw[Zb h,hm]
def Nw{m:aP}(h:(iF ts q (dF 4 cl key) l.d.sources r.d.sources).2.2=T)(hm:qU g (iF ts q (dF 4 cl key) l.d.sources r.d.sources).2.1=O m):fP ts q l r g cl acc key=if aO l.d.order [(iF ts q (dF 4 cl key) l.d.sources r.d.sources).1]=T then acc++[au ts q (dF 4 cl key) [l,r]]++[au ts q (dF 5 cl key) [l,m]] else acc++[au ts q (dF 4 cl key) [l,r]]:=by unfold fP;simp only;rw[Zb h,hm]
theorem Ny(Ez:Env f ts q W0)(hz:Fz Fq W0 w)(a:Nat)(l:aP)(ht:aF 141 Fq w a l)(hlo:iP q l)(hg:aW 141 161 Fq w gb A os g)(hgl:N g<=20)(gc:Nat)(hgo:∀p∈g,∀x,p.2=O x->iP q x.2)(hs:(bI g).isSome=T) :
  Calls V 151 #[Qu (f.cells ts q),Y (O (aD a 0)),Z (O (aD gb 0)) (N g) gc] w (jk 141 93 Fq w (dJ ts q (aB ts q) l g)):=by
 obtain⟨v0,v1,v2,v3,v4,v5,v6,v7,v8,v9,aM,aN,aQ,bZ,-⟩:=XY f ts q;obtain⟨r,hr⟩:=Zp.1 hs;obtain⟨y,hy,fT⟩:=Eb hr;have dU:0<N g:=by
  cases g with
  |nil=>cases hs
  |cons _ _=>simp
 have aI:=hg.tree _ (oK dU) y hy;rw[fT]at aI;have cO:iP q r:=Qb;have aY:Qn (∀x,Bw w x->Ce 183 #[Z (O (aD gb 0)) (N g) gc] x (Y (O (aD (A y.1) 0)))):=λx t=>by have:=pX (hg.below t) dU gc;rw[hy]at this;exact this
 obtain⟨pl,aR,dK⟩:=ht.kI;obtain⟨pr,Sr,fU⟩:=aI.kI;have df:pl.sources=l.d.sources:=congrArg bW.sources dK;have dh:pr.sources=r.d.sources:=congrArg bW.sources fU;have dV:pl.order.xs=l.d.order:=congrArg bW.order dK;obtain⟨j,Pg⟩:=eY (dw (bL (aB ts q) l.d.sources r.d.sources));have aJ:=pQ (aB ts q) l.d.sources r.d.sources;rw[XC]at aJ;have gV:N j<=8:=by rw[Pg];exact ZN (Eh aJ (Qk Ez.eight)) Ez.eight
 have dW:iC (N q.wh) j:=by rw[Pg];exact pO aJ
 have HJ:=Zh (by unfold dJ;simp only;rw[hr,Pg];rfl:dJ ts q (aB ts q) l g=j.foldl (fP ts q l r g j) [au ts q (dF 3 j 0) [l,r]])
 have dX:Qn (∀x,Bw w x->Cb 187 #[Qu #[v0,v1,v2,v3,v4,v5,v6,v7,v8,v9,aM,aN,aQ],I Qq (pl.sources:Int),I Qq (pr.sources:Int)] x (I Qq ((bL (aB ts q) l.d.sources r.d.sources:Nat):Int))):=λx t=>by rw[<-bZ,df,dh];exact JM Ez (hz.next t) _ _ hlo.src cO.src
 have Cw:Qn (∀x,Calls V 100 #[I Qq ((bL (aB ts q) l.d.sources r.d.sources:Nat):Int)] x λe w'=>∃v,e=Qv v/\w'.ownsRow (M (H x)) 3 1 v (N j) (j.map (Value.int J))/\Bw x w'):=λx=>by rw[Pg];exact A7 _ (Zy aJ (ZN (ZA (n:=2) X Ez.eight) Qc)) x
 have si:Qn (∀(G:Qz) (x:U) (b mb:Nat) (mt:aP) (ia:PN) (ic:Nat) (kind key:Int),Fz G W0 x->3<=kind->kind<=5->IntsIn G x ⟨ia,ic,j⟩->aF 141 G x a l->aF 141 G x mb mt->iP q mt->Qp x (aD b 0)=O (Y (O (aD a 0)))->Qp x (aD b 1)=O (Y (O (aD mb 0)))->Calls V 76 #[Qu #[v0,v1,v2,v3,v4,v5,v6,v7,v8,v9,aM,aN,aQ],Qu #[I J kind,I J 0,I J 0,I J 0,Z ia (N j) ic,I J key,Z Qs 0 0],Z (O (aD b 0)) 2 2] x (bN 141 G x (au ts q (dF kind j key) [l,mt]))):=λG x b mb mt ia ic kind key t h3 h5 hi Va je jf hc jh=>by rw[<-bZ];exact IP Ez t ⟨kind,0,0,0,⟨ia,ic,j⟩,key,eG⟩ ⟨hi.at',hi.inf,hi.nil,gL x,nE.nil _ _,λ_=>rfl,Za _,by show N j<=1000;omega,ZB _⟩ a mb b l mt Va hlo je jf hc jh h3 h5 dW
 obtain⟨KP,aT⟩:=eY (λkey=>iF ts q (dF 4 j key) l.d.sources r.d.sources:Int->Int × Int × Bool);have di:Qn (∀(x:U) (ia:PN) (ic:Nat) (key:Int),Bw w x->IntsAt x ia j->Cb 157 #[Qu #[v0,v1,v2,v3,v4,v5,v6,v7,v8,v9,aM,aN,aQ],Qu #[I J 4,I J 0,I J 0,I J 0,Z ia (N j) ic,I J key,Z Qs 0 0],Qu #[I J pl.kind,I Qq (pl.sources:Int),I Qq (pl.clauses:Int),Z pl.order.ad (N pl.order.xs) pl.order.cap,I Qq (pl.size:Int),I Qq (pl.cost:Int)],Qu #[I J pr.kind,I Qq (pr.sources:Int),I Qq (pr.clauses:Int),Z pr.order.ad (N pr.order.xs) pr.order.cap,I Qq (pr.size:Int),I Qq (pr.cost:Int)]] x (.tuple #[I J (KP key).1,I J (KP key).2.1,Qr (KP key).2.2])):=λx ia ic key t hi=>by have:=mY f ts q ⟨4,0,0,0,⟨ia,ic,j⟩,key,eG⟩ pl pr x Ez.ok ((Ez.at' hz).below t) hi aR.ok.sources Sr.ok.sources;rw[<-bZ,aT];simp only;rw[<-df,<-dh];exact this
 have dY:Qn (∀(G:Qz) (x:U) (jg:Int),aW 141 161 G x gb A os g->Calls V 188 #[Z (O (aD gb 0)) (N g) gc,I J jg] x λe w'=>∃pv,e=Qv pv/\PtrTo 141 G w' pv (qU g jg)/\Bw x w'):=λG x jg t=>FR t hgl gc jg;have FZ:Qn (∀(x:U) (c:Nat) (jg:Int),Bw w x->Qp x (aD c 0)=O (I J jg)->Cb 161 #[Z pl.order.ad (N pl.order.xs) pl.order.cap,Z (O (aD c 0)) 1 1] x (Qr (aO l.d.order [jg]))):=λx c jg t hc=>by
  rw[<-dV];exact iY pl.order.ad (O (aD c 0)) pl.order.cap 1 pl.order.xs [jg] x (Q8 t aR.ok.order) ⟨Qa,λi hi=>⟨c,0,rfl,by
   grind⟩⟩ aR.ok.cap
 have gW:Qn (∀jg m,qU g jg=O m->iP q m):=λjg m hm=>by
  rcases zS jg _ Qs m hm with h0|⟨n,hn⟩
  .cases h0
  .rcases ll g [] _ hn with h0|⟨p,hp,e⟩
   .cases h0
   .exact hgo p hp _ e
 obtain⟨JK,bR⟩:=eY (λk=>(j.take k).foldl (fP ts q l r g j) [au ts q (dF 3 j 0) [l,r]]:Nat->Qy aP);have aZ:Qn (∀k,k<N j->JK (k+1)=fP ts q l r g j (JK k) (E j k 0)):=λk hk=>by rw[bR];exact gF _ _ j 0 hk
 have gX:Qn (∀k,k<N j->(KP (E j k 0)).2.2=F->JK (k+1)=JK k):=λk hk e=>by rw[aZ.o k hk];rw[aT]at e;exact WL e
 have gY:Qn (∀k,k<N j->(KP (E j k 0)).2.2=T->qU g (KP (E j k 0)).2.1=Qs->JK (k+1)=JK k++[au ts q (dF 4 j (E j k 0)) [l,r]]):=λk hk e em=>by rw[aZ.o k hk];rw[aT]at e em;exact Nv e em
 have gZ:Qn (∀k m,k<N j->(KP (E j k 0)).2.2=T->qU g (KP (E j k 0)).2.1=O m->JK (k+1)=if aO l.d.order [(KP (E j k 0)).1]=T then JK k++[au ts q (dF 4 j (E j k 0)) [l,r]]++[au ts q (dF 5 j (E j k 0)) [l,m]] else JK k++[au ts q (dF 4 j (E j k 0)) [l,r]]):=λk m hk e em=>by rw[aZ.o k hk];rw[aT]at e em ⊢;exact Nw e em
 have ib:Qn (∀k,N (JK k)<=20):=λk=>by rw[bR];refine ZN (uV ts q l r g j (j.take k) _) ?_;grind
 have ig:Qn (JK (N j)=dJ ts q (aB ts q) l g):=by grind
 have dZ:=Zh (by  rw[bR];rfl:JK 0=[au ts q (dF 3 j 0) [l,r]])
 have HZ:=hd hz;have Ph:=hd ht;obtain⟨ra,fV⟩:=eY (A y.1);rw[<-fV]at aY Sr aI;have Wm:=hd aI;have Nz:=hd cO;have ik:=hd hg;have yV:=hd aR;have Ei:=hd Sr;rw[bZ];clear bZ Ez hz ht hlo hg hgo hs hr hy fT aI cO aR dK Sr fU df dh dV Pg aJ dW HJ aT bR aZ fV;generalize dJ ts q (aB ts q) l g=R,bL (aB ts q) l.d.sources r.d.sources=C at*;obtain⟨T3,FP⟩:=eY (au ts q (dF 3 j 0) [l,r]);rw[<-FP]at dZ;have il:=Zh FP;clear FP;obtain⟨fZ,gm,gp,⟨U6,U7,iQ⟩,gq,gu⟩:=pl;obtain⟨gy,gz,gB,⟨gD,gG,iR⟩,gH,gI⟩:=pr;simp only at dX di FZ;obtain⟨U5,bS⟩:=eY (N iQ);obtain⟨gJ,dL⟩:=eY (N iR);rw[<-bS,<-dL]at di;rw[<-bS]at FZ;have dm:Qn (∀x,Bw w x->Qp x (aD a 0)=O (I J fZ)/\Qp x (aD a 1)=O (I Qq (gm:Int))/\Qp x (aD a 2)=O (I Qq (gp:Int))/\Qp x (aD a 3)=O (Z U6 U5 U7)/\Qp x (aD a 4)=O (I Qq (gq:Int))/\Qp x (aD a 5)=O (I Qq (gu:Int))):=λx t=>by rw[bS];exact⟨cB t yV.o.c0,cB t yV.o.c1,cB t yV.o.c2,cB t yV.o.c3,cB t yV.o.c4,cB t yV.o.c5⟩
 have ed:Qn (∀x,Bw w x->Qp x (aD ra 0)=O (I J gy)/\Qp x (aD ra 1)=O (I Qq (gz:Int))/\Qp x (aD ra 2)=O (I Qq (gB:Int))/\Qp x (aD ra 3)=O (Z gD gJ gG)/\Qp x (aD ra 4)=O (I Qq (gH:Int))/\Qp x (aD ra 5)=O (I Qq (gI:Int))):=λx t=>by rw[dL];exact⟨cB t Ei.o.c0,cB t Ei.o.c1,cB t Ei.o.c2,cB t Ei.o.c3,cB t Ei.o.c4,cB t Ei.o.c5⟩
 clear bS dL yV Ei;obtain⟨gl,FK⟩:=eY (N g);rw[<-FK]at aY dY hgl ⊢;clear FK;obtain⟨w1,iT,aU,dM⟩:=bC w #[v0,v1,v2,v3,v4,v5,v6,v7,v8,v9,aM,aN,aQ] 82;obtain⟨a0,a1,a2,a3,a4,a5,a6,a7,a8,a9,jq,jP,Q⟩:=dM.k13;obtain⟨p0,p1,p2,p3,p4,p5⟩:=dm.o w1 aU;obtain⟨q0,q1,q2,q3,q4,q5⟩:=ed.o w1 aU;have dn:=hd aU;have qO:=hd dM;have ek:=aY.o w1 aU;clear aU dM aY;go_enter func151,ntmps151;go_wp2_with fail;refine ek.mono ?_;rintro e wz ⟨rfl,iU⟩;have om:=iU.symm;subst om;clear ek iT;go_wp2_with fail;refine wH w1 λD=>?_;refine Vs 0 D ?_;refine O0 10 D ?_;refine wR 11 λK hK=>?_;go_simp;refine XX (dX.o _ (az dn.o D)) ?_;rintro e wy ⟨rfl,u⟩;refine oT hK D u λD=>?_;clear hK K;have eu:=D.size;refine wR 12 λK hK=>?_;go_simp;refine XX (Cw.o _) ?_;rintro e S ⟨v,rfl,hv,u⟩;obtain⟨ia,lm,ic,rfl⟩:=Xh hv;refine oT hK D u λD=>?_;clear hK K;refine wR 13 λK hK=>?_;go_simp;refine hK.o _ _ D λD=>?_;clear hK K;refine wD ?_;try simp only[pV]
 try simp only[pV]
 clear p0 p1 p2 p3 p4 p5 q0 q1 q2 q3 q4 q5;obtain⟨iv,oW,oq,jT,dN,dO,dP⟩:=mK hv X;obtain⟨ja,jc,ix⟩:=iv;simp only[ah.val]at oW oq jT dN dO dP;subst oq;injection oW with hi1 hi2 hi3;subst hi1 hi2 hi3;have Df:=D;have U1:Qn (IntsIn Fq S ⟨ia,ic,ix⟩):=⟨jT,λ_ z e=>HZ.o.high _ (ZN dn.o.size (ZN eu (dN z e))),dO,dP⟩;obtain⟨bT,B⟩:=aS (qO.o.keep (ZP (s:=λb=>b<M (H w1)) Df (λ_ h _=>h)) qO.o.lt) (az dn.o Df);obtain⟨cn,dQ⟩:=eY (N ix);clear D eu hv jT dN dO dP Df a0 a1 a2 a3 a4 a5 a6 a7 a8 a9 jq jP Q;obtain⟨w3,bU⟩:=eX (S.alloc (Qt #[Y (O (aD a 0)),Y (O (aD ra 0))] 93));have bf:Bw S w3:=by rw[<-bU];exact cZ _ _
 have bg:=az B.o bf;have bn:=si.o Fq w3 (M (H S)) ra r ia ic 3 0 (HZ.o.next bg) X X (U1.o.below bf) (Ph.o.below bg) (Wm.o.below bg) Nz.o (by rw[<-bU];simp) (by rw[<-bU];simp);rw[<-il.o]at bn;have ax:=bT.o;obtain⟨a0,a1,a2,a3,a4,a5,a6,a7,a8,a9,jq,jP,Q⟩:=ax.k13;have dx:=hd bf;rw[<-dQ]at bn gV ⊢;have Fb:=hd dQ;clear bf bg ax dQ;go_wp2_with fail;refine bn.mono ?_;rintro e w4 ⟨r1,rfl,hT,aa,ag,aC⟩;obtain⟨w5,uC⟩:=eX (w4.alloc (Qt #[Y (O (aD r1 0))] 93));have bq:Bw w4 w5:=by rw[<-uC];exact cZ _ _
 obtain⟨iV,ko⟩:=aS (bV.one (ZN dx.o.size aC.size) (by rw[<-uC];exact lT _ _) hT bq (Za _) (ZN dx.o.size aa) (Zy ag bq.size)) (az dx.o (az aC bq));clear bn hT aa ag aC bq bU a0 a1 a2 a3 a4 a5 a6 a7 a8 a9 jq jP Q;go_wp2;clear uC;go_loopw [9,42] (λpv xv wr=>∃(k:Nat) (bs:Qy (Nat × aP)),k<=cn/\xv=I J (k:Int)/\Qn (bs.map Prod.snd=JK k)/\Qn (bV 141 93 Fq (M (H S)) wr pv bs)/\Qn (Bw S wr)) (λ_ xv _=>cn-(intOf xv).toNat)
 case atStart=>exact⟨0,[(r1,T3)],ZB _,rfl,by show _=_;rw[dZ.o];rfl,iV.o,ko.o⟩
 case round=>
  obtain⟨k,bs,hk,rfl,yB,aG,jE⟩:=hrel;obtain⟨pa,pm,pc,rfl⟩:=Xh aG.o.own;by_cases ji:k<cn
  .have L:k<N ix:=by rw[<-Fb.o];exact ji
   obtain⟨kb,Br,rfl,aL⟩:=Q0 (Q8 jE.o U1.o.at').2 L;have eB:=aL k L;obtain⟨key,aX⟩:=eY (E ix k 0);rw[<-aX]at eB;have bu:=gX.o k L;have bz:=gY.o k L;have bA:=λm=>gZ.o k m L;rw[<-aX]at bu bz bA;have W:=az B.o jE.o;have jm:=hd W;have hv:∀z,(Value.slice pa pm pc).ownBlock=O z->M (H S)<=z/\z<M (H wr):=λz e=>Xg aG.o.own e;have dz:=Zh hv;obtain⟨FN,gK⟩:=eY (λb=>Fq b/\b≠M (H wr):Qz);have sZ:Qn (∀b,FN b↔Fq b/\b≠M (H wr)):=λb=>by rw[gK]
   have RU:=Zh (aG.o.mono (λb u h=>(sZ.o b).2 ⟨h,X⟩));obtain⟨G,hG⟩:=eY (Fv FN (Z pa pm pc));have P:Qn (M (H W0)<=M (H w)/\M (H w)<=M (H S)/\M (H S)<=M (H wr)):=⟨HZ.o.below.size,B.o.size,jE.o.size⟩;have eD:Qn (∀x,Bw wr x->M (H wr)<M (H x)->Fz FN W0 x):=λx t hl=>by have h0:=(HZ.o.next W).next t;have:=P.o;exact⟨h0.below,λb u=>(sZ.o b).2 ⟨h0.low b u,Qk u.lt⟩,λb u=>(sZ.o b).2 ⟨h0.high b u,X⟩⟩
   have iq:Qn (∀x,Bw wr x->M (H wr)<M (H x)->Fz G W0 x):=λx t hl=>by rw[hG];exact(eD.o x t hl).own (λg e=>Ql (hv g e) P.o)
   have iw:Qn (aF 141 G wr a l):=by rw[hG];exact(Ph.o.mono (G:=FN) (λb u h=>(sZ.o b).2 ⟨h,Qk P.o⟩)).own W (λz e=>ZN B.o.size (hv z e).1)
   have iy:Qn (aF 141 G wr ra r):=by rw[hG];exact(Wm.o.mono (G:=FN) (λb u h=>(sZ.o b).2 ⟨h,Qk P.o⟩)).own W (λz e=>ZN B.o.size (hv z e).1)
   have eF:Qn (IntsIn G wr ⟨O (aD kb Br),ic,ix⟩):=by rw[hG];exact(U1.o.mono (G:=Fv FN (Z pa pm pc)) (λb u h=>⟨(sZ.o b).2 ⟨h,Qk P.o⟩,λe=>Qk ((hv b e).1)⟩)).below jE.o
   have eH:=di.o;have dA:=bT.o.keep (ZP (s:=λb=>b<M (H S)) jE.o (λ_ h _=>h)) bT.o.lt;have eO:=Zh bT.o.lt;have ze:=hd hG;obtain⟨wq,iW⟩:=eY (wr);subst iW;obtain⟨y1,gM,ak,bX⟩:=bC wq #[I J 4,I J 0,I J 0,I J 0,Z (O (aD kb Br)) cn ic,I J key,Z Qs 0 0] 138;have dB:=dA.keep (ZP (s:=λb=>b<M (H wq)) ak (λ_ h _=>h)) dA.lt;obtain⟨a0,a1,a2,a3,a4,a5,a6,a7,a8,a9,jq,jP,Q⟩:=dB.k13;obtain⟨n0,n1,n2,n3,n4,n5,n6⟩:=bX.k7;obtain⟨p0,p1,p2,p3,p4,p5⟩:=dm.o y1 (az W ak);obtain⟨q0,q1,q2,q3,q4,q5⟩:=ed.o y1 (az W ak);have yA:=hd ak;have eP:=hd bX;have eQ:=hd dB;have eT:=hd gM;have J2:Qn (∀x,Bw y1 x->Cb 157 #[Qu #[v0,v1,v2,v3,v4,v5,v6,v7,v8,v9,aM,aN,aQ],Qu #[I J 4,I J 0,I J 0,I J 0,Z (O (aD kb Br)) cn ic,I J key,Z Qs 0 0],Qu #[I J fZ,I Qq (gm:Int),I Qq (gp:Int),Z U6 U5 U7,I Qq (gq:Int),I Qq (gu:Int)],Qu #[I J gy,I Qq (gz:Int),I Qq (gB:Int),Z gD gJ gG,I Qq (gH:Int),I Qq (gI:Int)]] x (.tuple #[I J (KP key).1,I J (KP key).2.1,Qr (KP key).2.2])):=λx t=>by have:=eH x (O (aD kb Br)) ic key (az W (az ak t)) (eF.o.below (az ak t)).at';rw[<-Fb.o]at this;exact this
   have eU:=Zh bX.lt;clear aL aX L hG gK hv dA W ak bX dB gM eH;generalize (KP key).1=k1,(KP key).2.1=k2 at*;generalize jl:(KP key).2.2=k3 at*;clear jl;go_wp2_with fail;rw[eT.o];clear eT;refine wH y1 λD=>?_;refine Vs 0 D ?_;refine wR 10 λK hK=>?_;go_simp;refine XX (J2.o _ D) ?_;rintro e y2 ⟨rfl,u⟩;refine oT hK D u λD=>?_;clear hK K;refine wA6 11 D ?_;refine wR 17 λK hK=>?_;go_simp;refine hK.o _ _ D λD=>?_;clear hK K;refine wD ?_;try simp only[pV]
   try simp only[pV]
   clear p0 p1 p2 p3 p4 p5 q0 q1 q2 q3 q4 q5 eB a0 a1 a2 a3 a4 a5 a6 a7 a8 a9 jq jP Q n0 n1 n2 n3 n4 n5 n6;have xP:=hd D;clear D
   cases k3 with
   |false =>
    have qD:=Zh (bu rfl);have HF:Qn (bV 141 93 Fq (M (H S)) y2 (Z pa pm pc) bs/\Bw S y2):=⟨(aG.o.below yA.o).below xP.o,az jE.o (az yA.o xP.o)⟩;clear bu bz bA;go_wp2;go_roundw
    case rel=>exact⟨k+1,bs,X,Qe,yB.o.trans qD.o.symm,HF.o.1,HF.o.2⟩
    case measure=>exact XK
   |true =>
    have bB:=Zh (bz rfl);have bD:Qn _:=λm=>bA m rfl;clear bu bz bA;have dC:=eP.o.keep (ZP (s:=λb=>b<M (H y1)) xP.o (λ_ h _=>h)) eP.o.lt;have ax:=eQ.o.keep (ZP (s:=λb=>b<M (H y1)) xP.o (λ_ h _=>h)) eQ.o.lt;obtain⟨a0,a1,a2,a3,a4,a5,a6,a7,a8,a9,jq,jP,Q⟩:=ax.k13;obtain⟨n0,n1,n2,n3,n4,n5,n6⟩:=dC.k7;obtain⟨y3,bY⟩:=eX (y2.alloc (Qt #[Y (O (aD a 0)),Y (O (aD ra 0))] 93));have bE:Bw y2 y3:=by rw[<-bY];exact cZ _ _
    have bF:=Zh (az yA.o (az xP.o bE));have bG:=si.o G y3 (M (H y2)) ra r (O (aD kb Br)) ic 4 key (iq.o y3 bF.o (Zy eU.o (ZN xP.o.size bE.size))) X X (eF.o.below bF.o) (iw.o.below bF.o) (iy.o.below bF.o) Nz.o (by rw[<-bY];simp) (by rw[<-bY];simp);rw[<-Fb.o]at bG;obtain⟨T4,gN⟩:=eY (au ts q (dF 4 ix key) [l,r]);rw[<-gN]at bG bB bD;have iA:=hd dC;have iB:=hd ax;have eZ:=hd bE;clear dC ax bE gN;go_wp2_with fail;refine bG.mono ?_;rintro e y4 ⟨r4,rfl,hT,aa,ag,aC⟩;have bH:=Zh (az eZ.o aC);have WM:=Zh (az yA.o (az xP.o bH.o));have ai:N (bs.map Prod.fst)=N bs:=ZH _;have WO:N bs<=20:=by have h1:=congrArg N yB.o;rw[ZH]at h1;rw[h1];exact ib.o k
    obtain⟨v5,y5,xO,tQ,cu,⟨za,zm,zc,rfl⟩,zM⟩:=wI y4 (M (H S)) (Z pa pm pc) (bs.map Prod.fst) (by rw[ai];exact(aG.o.below WM.o).own) (by rw[ai];omega) (ZN jE.o.size WM.o.size) r4 139;have fe:(Value.slice za zm zc).ownBlock=(Value.slice pa pm pc).ownBlock∨∃z,(Value.slice za zm zc).ownBlock=O z/\M (H y4)<=z:=by
     rcases zM with h|h
     .exact .inl h
     .exact .inr ⟨_,h,X⟩
    have SE:=Zh ((RU.o.below yA.o).push (az xP.o bH.o) (by rw[ze.o]at hT;exact hT) (ZN xP.o.size (ZN eZ.o.size aa)) ag (ZN jE.o.size yA.o.size) tQ cu fe);have dD:=(ZP bH.o (λ_ h _=>h)).trans cu;have NA:=Zh ((az jE.o WM.o).trans (cu.below (ZN jE.o.size WM.o.size) (λb u e=>Qk ((dz.o b e).1))));have Pk:=iB.o.keep dD (λe=>Ql ((dz.o _ e).1) eO.o);have dE:=iA.o.keep dD (λe=>Qk ((dz.o _ e).2));have fo:=hd Pk;have dG:=hd dE;obtain⟨G5,aH⟩:=eY (Fv FN (Z za zm zc));have fq:=Zh aH;have bJ:∀z,(Value.slice za zm zc).ownBlock=O z->M (H S)<=z/\z<M (H y5):=λz e=>Xg SE.o.own e;have SG:=az B.o NA.o;have iD:Qn (aW 141 161 G5 y5 gb A os g):=by rw[aH];exact(ik.o.mono (G:=Fv FN (Z za zm zc)) (λb u h=>⟨(sZ.o b).2 ⟨h,Qk P.o⟩,λe=>Ql ((bJ b e).1) B.o.size⟩)).below SG
    have fu:=Zh dE.lt;have iE:Qn (Fz FN W0 y5):=⟨(HZ.o.next SG).below,(eD.o y4 WM.o (Zy eU.o (ZN xP.o.size bH.o.size))).low,λb u=>(sZ.o b).2 ⟨(HZ.o.next SG).high b u,Qk fu.o⟩⟩;have iG:Qn (Fz G5 W0 y5):=by rw[aH];exact SE.o.fz iE.o (ZN HZ.o.below.size B.o.size)
    have iH:Qn (aF 141 G5 y5 a l):=by rw[aH];exact(Ph.o.mono (G:=FN) (λb u h=>(sZ.o b).2 ⟨h,Qk P.o⟩)).own SG (λz e=>ZN B.o.size (bJ z e).1)
    have iI:Qn (IntsIn G5 y5 ⟨O (aD kb Br),ic,ix⟩):=by rw[aH];exact(U1.o.mono (G:=Fv FN (Z za zm zc)) (λb u h=>⟨(sZ.o b).2 ⟨h,Qk P.o⟩,λe=>Qk ((bJ b e).1)⟩)).below NA.o
    have fw:=hd SG;have bK:Qn (N (bs++[(r4,T4)])<=21/\(bs++[(r4,T4)]).map Prod.snd=JK k++[T4]):=⟨Qj,by rw[Q5,yB.o];rfl⟩;have fA:=dY.o G5 y5 k2 iD.o;clear bG hT aa ag aC ai WO tQ cu zM fe dD aH bJ SG Pk dE bY;generalize bs++[(r4,T4)]=bs5 at*;go_wp2_with (first|(at_builtin;refine Xz rfl (.tmp 66) (.tmp 73) 139 rfl (Z pa pm pc) (Z (O (aD (M (H y4)) 0)) 1 1) (Z za zm zc) y5 rfl rfl xO ?_));clear xO a0 a1 a2 a3 a4 a5 a6 a7 a8 a9 jq jP Q n0 n1 n2 n3 n4 n5 n6;go_wp2_with fail;refine fA.mono ?_;rintro e y6 ⟨mv,rfl,iX,av⟩;obtain⟨iZ,jb⟩:=aS ((SE.o.below av).mono (λb _ h=>((sZ.o b).1 h).1)) (az NA.o av);clear fA;rcases iX with⟨hm0,rfl⟩|⟨m,mb,hm0,rfl,hmT⟩
    .have qD:=Zh (bB.o hm0);clear hm0 av bB bD;go_wp2;go_roundw
     case rel=>exact⟨k+1,bs5,X,Qe,bK.o.2.trans qD.o.symm,iZ.o,jb.o⟩
     case measure=>exact XK
    .have bM:=bD.o m hm0;have iJ:=Zh (gW.o _ m hm0);have iK:=hd hmT;obtain⟨p0,p1,p2,p3,p4,p5⟩:=dm.o y6 (az fw.o av);clear p0 p1 p2 p4 p5;obtain⟨y7,dR⟩:=eX (y6.alloc (Qt #[I J k1] 3))
     have bO:Bw y6 y7:=by rw[<-dR];exact cZ _ _
     have fB:=FZ.o y7 (M (H y6)) k1 (az fw.o (az av bO)) (by rw[<-dR];simp);have iL:=Zh (az av bO);have iM:=hd bO;generalize aO l.d.order [k1]=SB at*;clear hm0 av bB bD hmT bO;go_wp2_with fail;refine fB.mono ?_;rintro e y8 ⟨rfl,JN⟩;obtain⟨Su,jd⟩:=aS (az iL.o JN) (az iM.o JN);clear fB JN dR p3
     cases SB with
     |false =>
      have qD:=hd bM;have HF:Qn (bV 141 93 Fq (M (H S)) y8 (Z za zm zc) bs5/\Bw S y8):=⟨(SE.o.below Su.o).mono (λb _ h=>((sZ.o b).1 h).1),az NA.o Su.o⟩;clear bM;go_wp2;go_roundw
      case rel=>exact⟨k+1,bs5,X,Qe,bK.o.2.trans qD.o.symm,HF.o.1,HF.o.2⟩
      case measure=>exact XK
     |true =>
      obtain⟨T5,dS⟩:=eY (au ts q (dF 5 ix key) [l,m]);have qD:Qn (JK (k+1)=JK k++[T4]++[T5]):=by rw[dS];exact bM
      have bP:=dG.o.keep (ZP (s:=λb=>b<M (H y5)) Su.o (λ_ h _=>h)) dG.o.lt;have fC:=fo.o.keep (ZP (s:=λb=>b<M (H y5)) Su.o (λ_ h _=>h)) fo.o.lt;have n0:=bP.at 0;have z0:=bP.frozen 0;clear bM;go_upto_region 14 with fail;obtain⟨y9,cz⟩:=eY (y8.setCell (aD (M (H wq)) 0) (I J 5));rw[<-cz];have fD:GB y9 (M (H wq)) 138 #[I J 5,I J 0,I J 0,I J 0,Z (O (aD kb Br)) cn ic,I J key,Z Qs 0 0]:=by rw[cz];exact bP.set 0 _
      have J3:Kept (λb=>b≠M (H wq)) y8 y9:=by rw[cz];exact Xd _ _ _ (λh=>h rfl)
      have fE:=fC.keep J3 (Ql eO.o jE.o.size);clear cz n0 z0 bP fC;obtain⟨a0,a1,a2,a3,a4,a5,a6,a7,a8,a9,jq,jP,Q⟩:=fE.k13;obtain⟨n0,n1,n2,n3,n4,n5,n6⟩:=fD.k7;have fF:Below (M (H wq)) y8 y9:=J3.below (Ql Su.o.size fu.o) (λb u=>X);have fG:=(az NA.o Su.o).trans (fF.mono jE.o.size);have iN:=Zh (fQ SE.o.own dG.o Qc);have xu:Qn (∀b,G5 b->b≠M (H wq)):=λb h=>by rw[fq.o]at h;exact((sZ.o b).1 h.1).2
      have fH:=(iG.o.next Su.o).kept' J3 (λb u=>Ql P.o u.lt);have fI:=(iH.o.below Su.o).aV (J3.mono (λb _ h=>xu.o b h));have fJ:=(iK.o.below jd.o).aV (J3.mono (λb _ h=>xu.o b h));have fK:=(iI.o.below Su.o).aV (J3.mono (λb _ h=>xu.o b h));obtain⟨x1,cK⟩:=eX (y9.alloc (Qt #[Y (O (aD a 0)),Y (O (aD mb 0))] 93));have aA:Bw y9 x1:=by rw[<-cK];exact cZ _ _
      have dH:=si.o G5 x1 (M (H y9)) mb m (O (aD kb Br)) ic 5 key (fH.next aA) X X (fK.below aA) (fI.below aA) (fJ.below aA) iJ.o (by rw[<-cK];simp) (by rw[<-cK];simp);rw[<-Fb.o,<-dS]at dH;have fM:=hd aA;have bQ:=hd fG;have dI:=Zh ((SE.o.below Su.o).ajL J3 (λb h=>((sZ.o b).1 h).2) (λg e h=>iN.o (h ▸ e)));clear dS fD fE J3 fF fG fH fI fJ fK aA;go_wp2_with fail;refine dH.mono ?_;rintro e x2 ⟨r5,rfl,hT,aa,ag,gP⟩;have aK:=Zh (az fM.o gP);have ai:N (bs5.map Prod.fst)=N bs5:=ZH _;have WO:=bK.o.1;obtain⟨v6,x3,gQ,gT,qL,⟨ua,um,uc,rfl⟩,gU⟩:=wI x2 (M (H S)) (Z za zm zc) (bs5.map Prod.fst) (by rw[ai];exact(dI.o.below aK.o).own) (by rw[ai];omega) (ZN bQ.o.size aK.o.size) r5 139;have fO:(Value.slice ua um uc).ownBlock=(Value.slice za zm zc).ownBlock∨∃z,(Value.slice ua um uc).ownBlock=O z/\M (H x2)<=z:=by
       rcases gU with h|h
       .exact .inl h
       .exact .inr ⟨_,h,X⟩
      have HF:Qn (bV 141 93 Fq (M (H S)) x3 (Z ua um uc) (bs5++[(r5,T5)])/\Bw S x3):=⟨(dI.o.push aK.o (by rw[fq.o]at hT;exact hT) (ZN fM.o.size aa) ag bQ.o.size gT qL fO).mono (λb _ h=>((sZ.o b).1 h).1),(az bQ.o aK.o).trans (qL.below (ZN bQ.o.size aK.o.size) (λb u e=>Qk ((Xg dI.o.own e).1)))⟩;have iO:Qn ((bs5++[(r5,T5)]).map Prod.snd=JK (k+1)):=by show _=_;rw[Q5,bK.o.2,qD.o];rfl
      clear dH hT aa ag gP ai WO gT qL gU fO cK;generalize bs5++[(r5,T5)]=bs6 at*;go_wp2_with (first|(at_builtin;refine Xz rfl (.tmp 91) (.tmp 98) 139 rfl (Z za zm zc) (Z (O (aD (M (H x2)) 0)) 1 1) (Z ua um uc) x3 rfl rfl gQ ?_));clear gQ a0 a1 a2 a3 a4 a5 a6 a7 a8 a9 jq jP Q n0 n1 n2 n3 n4 n5 n6;go_wp2;go_roundw
      case rel=>exact⟨k+1,bs6,X,Qe,iO.o,HF.o.1,HF.o.2⟩
      case measure=>exact XK
  .have aL:cn=k:=X
   have HF:Qn (bs.map Prod.snd=R):=by have:=yB.o;rw[<-aL,Fb.o,ig.o]at this;exact this
   clear aL;go_wp2;go_ret;exact⟨Z pa pm pc,bs,rfl,HF.o,aG.o.base B.o.size,az B.o jE.o⟩
structure ou(Tq Tl:TypeId)(Fq:Qz)(base:Nat)(w:U)(lv:Qm)(ls:Qy gG)(bs:Qy (Nat × aP)):Prop where
 own:w.ownsRow base Tl 1 lv (N ls) (ls.map gG.val)
 flat:eD ls=bs.map Prod.fst
 each:∀x∈ls,dh w (O x.ad) x.xs/\x.ad.block<M (H w)/\lv.ownBlock≠O x.ad.block
 tree:∀x∈bs,aF Tq (Fv Fq lv) w x.1 x.2/\base<=x.1/\x.1<M (H w)
 rise:(bs.map Prod.fst).Pairwise (· < ·)
def ou.nil(Tq Tl:TypeId)(Fq:Qz)(base:Nat)(w:U):ou Tq Tl Fq base w (Z Qs 0 0) [] []:=
 ⟨Xm _ _ _ _,rfl,(λx a=>by cases a),(λx a=>by cases a),List.Pairwise.nil⟩
def NB(ls:Qy gG)(x:gG):eD (ls++[x])=eD ls++x.xs:=by unfold eD;simp
theorem ou.push{base:Nat}{lv':Qm}{ls:Qy gG}{us:Qy (Nat × aP)}(h:ou Tq Tl Fq base w0 lv ls bs)(hb:Bw w0 w)(hu:bV Tq Tp (Fv Fq lv) (M (H w0)) w u us){ua:Addr}{uc:Nat}(hue:u=Z (O ua) (N us) uc)(hup:dh w (O ua) (us.map Prod.fst))(hun:M (H w0)<=ua.block/\ua.block<M (H w))(hbase:base<=M (H w0))
  (ho:w'.ownsRow base Tl 1 lv' (N (ls++[(⟨ua,uc,us.map Prod.fst⟩:gG)])) ((ls++[(⟨ua,uc,us.map Prod.fst⟩:gG)]).map gG.val)) (hk:Kept (λb=>lv.ownBlock≠O b) w w') (hat:lv'.ownBlock=lv.ownBlock∨∃g,lv'.ownBlock=O g/\M (H w)<=g):ou Tq Tl Fq base w' lv' (ls++[⟨ua,uc,us.map Prod.fst⟩]) (bs++us):=by
 have f:∀b,b<M (H w)->lv.ownBlock≠O b->lv'.ownBlock≠O b:=λb t v e=>by grind
 have l:∀b,lv.ownBlock=O b->b<M (H w0):=λb e=>(Xg h.own e).2;refine⟨ho,?_,λx d=>?_,λx d=>?_,?_⟩
 .rw[NB,h.flat,Q5]
 .rcases Xk.1 d with d|d
  .obtain⟨i,j,k⟩:=h.each x d;have p:=Zy j hb.size;exact⟨(i.below hb).aV hk (λ_ a e=>Qb),Zy p hk.size,f _ p k⟩
  .rw[Xj]at d;rw[d];have m:lv.ownBlock≠O ua.block:=λe=>Qk (l _ e)
   exact⟨hup.aV hk (λ_ a e=>Qb),Zy hun.2 hk.size,f _ hun.2 m⟩
 .rcases Xk.1 d with d|d
  .obtain⟨i,j,k⟩:=h.tree x d;exact⟨(i.below hb).pushed hk hat,j,Zy k (ZN hb.size hk.size)⟩
  .obtain⟨i,j,k⟩:=hu.tree x d;exact⟨i.JJ.pushed hk hat,ZN hbase j,Zy k hk.size⟩
 .rw[Q5,List.pairwise_append];refine⟨h.rise,hu.rise,λx d y r=>?_⟩;obtain⟨z,hz,rfl⟩:=ZL.1 d;obtain⟨q,n,rfl⟩:=ZL.1 r;exact Zy (h.tree z hz).2.2 (hu.tree q n).2.1
theorem ou.lists{base:Nat}{ls:Qy gG}(h:ou Tq Tl Fq base w lv ls bs):∃d cap,lv=Z d (N ls) cap/\WQ w d ls:=by
 have b:∀i,i<N ls->E ls i F3∈ls:=λi a=>Qb;rcases XF h.own with⟨rfl,h0⟩|⟨g,cap,rfl,_,_,hc⟩
 .have:=Zk h0;subst this;exact⟨Qs,0,rfl,λi a=>absurd a Qa,λi a=>absurd a Qa⟩
 .refine⟨_,cap,rfl,λi a=>⟨g,0,rfl,?_⟩,λi a=>(h.each _ (b i a)).1⟩
  grind
def zi(ts:Qy af)(q:ae)(conc:Qy Nat)(l:aP)(g:Qy aj)(h8:N conc<=8):0<N (dJ ts q conc l g)/\N (dJ ts q conc l g)<=17:=by
 have e:=pQ conc l.d.sources ((bI g).getD mP).d.sources;have f:=Eh e X;unfold dJ;simp only;refine⟨?_,?_⟩
 .generalize dw (bL conc l.d.sources ((bI g).getD mP).d.sources)=cl;have key:∀(b:Qx) (a:Qy aP),0<N a->0<N (b.foldl (fP ts q l ((bI g).getD mP) g cl) a):=by
   intro b
   induction b with
   |nil=>intro a h;exact h
   |cons k b ih =>
    intro a h;refine ih _ ?_;unfold fP;simp only;split
    .split
     .simp
     .split <;> simp
    .exact h
  exact key _ _ Qa
 .refine ZN (uV ts q l _ g _ _ _) ?_;simp;omega
def Tryz.SV:(V.info? 139).map (λi=>(i.zero,i.size,i.bytes))=O (O (Z Qs 0 0),1,24):=Qd
theorem SX(W:U)(base:Nat)(v:Qm)(ls:Qy gG)(hown:W.ownsRow base 139 1 v (N ls) (ls.map gG.val))(hl:N ls<=1000)(hb:base<=M (H W))(x:gG)(ty:TypeId) :
  ∃d w',(Builtin.append_ #[217,217] ty #[v,Z (O (aD (M (H W)) 0)) 1 1]).run V (W.alloc (Qt #[x.val] 139))=.ok d w'/\
   w'.ownsRow base 139 1 d (N (ls++[x])) ((ls++[x]).map gG.val)/\Kept (λb=>v.ownBlock≠O b) W w'/\(∃a m c,d = Z a m c)/\(d.ownBlock=v.ownBlock∨d.ownBlock=O (M (H W)+1)):=by
 obtain⟨j,k,e,f,g⟩:=Xl Tryz.SV;obtain⟨d,w',n,p,q,r,l⟩:=iq (P:=V) W base 217 ty 139 j _ 1 24 underlying217 k e f g rfl Qc v (N ls) _ hown hb [x.val] rfl (λu i=>by
  rw[Xj]at i;rw[i];rfl) hl Qc
 grind
theorem SY(Ez:Env f ts q W0)(hz:Fz Fq W0 w){ga:Nat}{Aa:Nat->Nat}{oa:Qy ah}{a:Qy aj}(hA:aW 141 161 Fq w ga Aa oa a)(hal:N a<=20)(gca:Nat)(hao:∀p∈a,∀x,p.2=O x->iP q x.2){Ab:Nat->Nat}{ob:Qy ah}{b:Qy aj}(hB:aW 141 161 Fq w gb Ab ob b)(hbl:N b<=20)(gcb:Nat)(hbo:∀p∈b,∀x,p.2=O x->iP q x.2)(hs:(bI b).isSome=T) :
  Calls V 101 #[Qu (f.cells ts q),Z (O (aD ga 0)) (N a) gca,Z (O (aD gb 0)) (N b) gcb] w (jk 141 93 Fq w (jr ts q (aB ts q) a b)):=by
 obtain⟨v0,v1,v2,v3,v4,v5,v6,v7,v8,v9,aA,aC,aG,bZ,-⟩:=XY f ts q;obtain⟨w1,bR,aH,aZ⟩:=bC w #[v0,v1,v2,v3,v4,v5,v6,v7,v8,v9,aA,aC,aG] 82;have B:=Bj (hA.below aH) hal gca;obtain⟨d,Wl⟩:=eY (dA a);rw[<-Wl]at B;have bF:N d<=20:=by rw[Wl];have:=rG a (N a);rw[ZJ]at this;omega
 obtain⟨A,L⟩:=eY (λk=>(d.take k).flatMap λx=>dJ ts q (aB ts q) x.2 b:Nat->Qy aP);have aQ:Qn (∀k,k<N d->A (k+1)=A k++dJ ts q (aB ts q) (E d k (0,mP)).2 b):=λk hk=>by rw[L];show (d.take (k+1)).flatMap _=_;rw[Jf d (0,mP) hk,ZF];simp
 have bG:=Zh (by rw[L];show (d.take (N d)).flatMap _=_;rw[ZJ,Wl];rfl:A (N d)=jr ts q (aB ts q) a b)
 have h8:N (aB ts q)<=8:=by rw[XC];exact Ez.eight
 have aR:Qn (∀t,0<N (dJ ts q (aB ts q) t b)/\N (dJ ts q (aB ts q) t b)<=17):=λt=>zi ts q _ t b h8;have Wm:Qn (∀k,k<N d->aF 141 Fq w (E (d.map λx=>Aa x.1) k 0) (E d k (0,mP)).2/\iP q (E d k (0,mP)).2):=λk hk=>by
  have e1:E (d.map λx=>Aa x.1) k 0=Aa (d[k]).1:=Qb;have e2:E d k (0,mP)=d[k]:=Qb;rw[e1,e2];have hm:d[k]∈dA a:=by rw[<-Wl];exact XO hk
  rcases ll a [] _ hm with h0|⟨p,hp,e⟩
  .cases h0
  .exact⟨hA.tree p hp _ e,hao p hp _ e⟩
 have ak:Qn (∀(G:Qz) (x:U) (W:Nat) (t:aP),Fz G W0 x->aF 141 G x W t->iP q t->aW 141 161 G x gb Ab ob b->Calls V 151 #[Qu #[v0,v1,v2,v3,v4,v5,v6,v7,v8,v9,aA,aC,aG],Y (O (aD W 0)),Z (O (aD gb 0)) (N b) gcb] x (jk 141 93 G x (dJ ts q (aB ts q) t b))):=λG x W t hx ht bU hg=>by rw[<-bZ];exact Ny Ez hx W t ht bU hg hbl gcb hbo hs
 have r:Qn (N (d.map λx=>Aa x.1)=N d):=ZH _;obtain⟨bf,qO,HZ,vX⟩:=sU aH aZ hz hB;have bH:Qn (A 0=[]):=by show _=_;rw[L];rfl
 rw[bZ];clear bZ Ez hz hA hB hao hbo hs Wl L h8 aH aZ;generalize jr ts q (aB ts q) a b=R,(d.map λx=>Aa x.1)=xs at*;obtain⟨al,bg⟩:=eY (N a);obtain⟨bl,bn⟩:=eY (N b);rw[<-bg]at B ⊢;rw[<-bn]at ak ⊢;clear bg bn hal hbl;obtain⟨JT,P⟩:=eY (λt=>dJ ts q (aB ts q) t b:aP->Qy aP);have Nn:Qn (∀k,k<N d->A (k+1)=A k++JT (E d k (0,mP)).2):=by rw[P];exact aQ.o
 have bJ:Qn (∀t,0<N (JT t)/\N (JT t)<=17):=by rw[P];exact aR.o
 have bK:Qn (∀(G:Qz) (x:U) (W:Nat) (t:aP),Fz G W0 x->aF 141 G x W t->iP q t->aW 141 161 G x gb Ab ob b->Calls V 151 #[Qu #[v0,v1,v2,v3,v4,v5,v6,v7,v8,v9,aA,aC,aG],Y (O (aD W 0)),Z (O (aD gb 0)) bl gcb] x (jk 141 93 G x (JT t))):=by rw[P];exact ak.o
 clear aQ aR ak P;obtain⟨PL,bq⟩:=eY (N d);rw[<-bq]at Nn Wm r bG bF;obtain⟨PD,aI⟩:=eY (λk=>(E d k (0,mP)).2:Nat->aP);have bL:Qn (∀k,k<PL->A (k+1)=A k++JT (PD k)):=by rw[aI];exact Nn.o
 have bM:Qn (∀k,k<PL->aF 141 Fq w (E xs k 0) (PD k)/\iP q (PD k)):=by rw[aI];exact Wm.o
 clear Nn Wm bq aI d;go_enter func101,ntmps101;go_wp2_with fail;refine B.mono ?_;rintro e w2 ⟨vp,rfl,bu,aJ⟩;obtain⟨xa,xc,rfl,bz,-⟩:=lL bu (by rw[r.o];omega);rw[r.o];obtain⟨RQ,bA,m⟩:=jX bz (qO.o.keep (ZP (s:=λb=>b<M (H w1)) aJ (λ_ h _=>h)) qO.o.lt) (az bf.o aJ);clear B bu bz aJ bR qO bf;go_wp2;go_loopw [7,13] (λlv xv wr=>∃(k:Nat) (ls:Qy gG) (bs:Qy (Nat × aP)),k<=PL/\xv=I J (k:Int)/\Qn (bs.map Prod.snd=A k)/\Qn (N ls=k/\N bs<=17*k)/\Qn (ou 141 139 Fq (M (H w2)) wr lv ls bs)/\Qn (Bw w2 wr)) (λ_ xv _=>PL-(intOf xv).toNat)
 case atStart=>exact⟨0,[],[],ZB _,rfl,bH.o.symm,⟨rfl,Qa⟩,ou.nil _ _ _ _ _,Q9 _ _⟩
 case round=>
  obtain⟨k,ls,bs,hk,rfl,yB,Sc,Q,jE⟩:=hrel;obtain⟨la,lc,rfl,S⟩:=Q.o.lists;have bN:=Zh S;by_cases ag:k<PL
  .obtain⟨kb,Br,rfl,bB⟩:=dh.get (RQ.o.below jE.o) (i:=k) (by rw[r.o];exact ag);have aT:=bB k (by rw[r.o];exact ag);obtain⟨W,aK⟩:=eY (E xs k 0)
   rw[<-aK]at aT;have C:=bM.o k ag;rw[<-aK]at C;have D:=az m.o jE.o;have hv:∀z,(Value.slice la (N ls) lc).ownBlock=O z->M (H w2)<=z/\z<M (H wr):=λz e=>Xg Q.o.own e;have au:=bK.o (Fv Fq (Z la (N ls) lc)) wr W (PD k) ((HZ.o.next D).own (λz e=>by have:=hv z e;have:=HZ.o.below.size;have:=m.o.size;omega)) (C.1.own D (λz e=>Ql (hv z e) m.o.size)) C.2 ((vX.o.mono (G:=Fv Fq (Z la (N ls) lc)) (λb hb h=>⟨h,λe=>Ql (hv b e) m.o.size⟩)).below D);obtain⟨qD,bD⟩:=aS (bL.o k ag) (bJ.o (PD k));have hf:=bA.o.keep (ZP (s:=λb=>b<M (H w2)) jE.o (λ_ h _=>h)) bA.o.lt;obtain⟨a0,a1,a2,a3,a4,a5,a6,a7,a8,a9,jq,jP,bS⟩:=hf.k13;generalize JT (PD k)=JX at*;obtain⟨bT,aL⟩:=eY (N ls);rw[<-aL]at au ⊢;have vC:=Zh aL;clear bB aK C D hv hf aL;go_wp2_with fail;refine au.mono ?_;rintro e w3 ⟨u,l,rfl,WR,y,n⟩;rw[vC.o]at y;have av:N l=N JX:=by rw[<-WR,ZH]
   have aU:=y.own;have j:=y.len;have ax:0<N l:=by rw[av];exact bD.o.1
   have bO:N l<=17:=by rw[av];exact bD.o.2
   obtain⟨uo,uc,aM,aN,-,-,bE⟩:=lL (xs:=l.map Prod.fst) aU (by rw[j];omega);obtain⟨ub,S9,rfl,WS⟩:=dh.get aN (i:=0) (by rw[j];exact ax);rw[j]at aM;have aV:=bE _ rfl;have v:=Sc.o;have aX:ub<M (H w3):=ZW (WS 0 (by rw[j];exact ax));obtain⟨v5,y5,xO,tQ,aO,⟨za,zm,zc,rfl⟩,zM⟩:=SX w3 (M (H w2)) (Z la (N ls) lc) ls (XM Q.o.own n) X (ZN jE.o.size n.size) ⟨(aD ub S9),uc,l.map Prod.fst⟩ 217;have bP:Qn (ou 141 139 Fq (M (H w2)) y5 (Z za zm zc) (ls++[⟨(aD ub S9),uc,l.map Prod.fst⟩]) (bs++l)):=Q.o.push n y aM aN ⟨aV,aX⟩ jE.o.size tQ aO (by
    rcases zM with h|h
    .exact .inl h
    .exact .inr ⟨_,h,X⟩)
   have K:Qn ((bs++l).map Prod.snd=A (k+1)/\N (ls++[(⟨(aD ub S9),uc,l.map Prod.fst⟩:gG)])=k+1/\N (bs++l)<=17*(k+1)/\Bw w2 y5):=⟨by rw[Q5,yB.o,WR,qD.o],Qj,by rw[ZG];omega,(az jE.o n).trans (aO.below (ZN jE.o.size n.size) (λb hb e=>Qk ((Xg Q.o.own e).1)))⟩;have ai:(⟨(aD ub S9),uc,l.map Prod.fst⟩:gG).val=Z (O (aD ub S9)) (N l) uc:=by unfold gG.val;rw[j]
   rw[ai]at xO;rw[<-vC.o]at xO;generalize ls++[(⟨(aD ub S9),uc,l.map Prod.fst⟩:gG)]=ls' at*;generalize bs++l=bs' at*;subst aM;clear au WR y n av aU j ax bO aN bE WS aV v aX tQ aO zM ai a0 a1 a2 a3 a4 a5 a6 a7 a8 a9 jq jP bS aT;go_wp2_with (first|(at_builtin;refine Xz rfl (.tmp 17) (.tmp 22) 217 rfl (Z la bT lc) (Z (O (aD (M (H w3)) 0)) 1 1) (Z za zm zc) y5 rfl rfl xO ?_));clear xO;go_wp2;go_roundw
   case rel=>exact⟨k+1,ls',bs',X,Qe,K.o.1,⟨K.o.2.1,K.o.2.2.1⟩,bP.o,K.o.2.2.2⟩
   case measure=>exact XK
  .have bQ:PL=k:=X
   have v:=Sc.o;have j:N (eD ls)=N bs:=by rw[Q.o.flat,ZH]
   have CU:=J5 la lc ls wr bN.o X (by rw[j];omega);have jK:Qn (bs.map Prod.snd=R):=by have:=yB.o;grind
   clear bQ v j;go_wp2_with fail;refine CU.mono ?_;rintro e w4 ⟨vr,rfl,yD,aa⟩;have HF:Qn (jk 141 93 Fq w R (Qv vr) w4):=by
    rw[Q.o.flat]at yD;have aY:=az m.o jE.o;refine⟨vr,bs,rfl,jK.o,⟨?_,λx hx=>?_,Q.o.rise⟩,az aY aa⟩
    .rw[ZH]at yD;exact mr yD aY.size
    .obtain⟨h1,h2,h3⟩:=Q.o.tree x hx;exact⟨h1.JJ.own aa (λg e=>(Xg yD e).1),ZN m.o.size h2,Zy h3 aa.size⟩
   obtain⟨bV,rm,rc,rfl⟩:=Xh yD;clear CU yD aa;go_wp2;go_ret;exact HF.o
structure qM where
 gs:Nat
 NG:Nat
 gb:Nat->Nat
 GJ:Nat->Nat
 A:Nat->Nat->Nat
 os:Nat->Qy ah
 av:Qm
 bA:Nat
 pv:Qm
def aW.tp(h:aW Tq Tp Fq w gb A os g):∃c,GB w gb Tp c:=by obtain⟨c,a,_⟩:=h.blk;exact⟨c,a⟩
theorem GB.tp{G:Nat}{t t':TypeId}{c c':Array Qm}(h:GB w G t c)(h':GB w G t' c'):t=t':=by have a:w.heap[G]? = O (Qt c t (0,0)):=h;have b:w.heap[G]? = O (Qt c' t' (0,0)):=h';grind
def lM(L:qM)(σ:fU):Array Value:=#[Z (O (aD L.gs 0)) (N σ.groups) L.NG,L.av,Qr σ.cut,Y (O (aD L.bA 0)),L.pv,I J σ.status]
structure dI(W0:U)(f:ay)(ts:Qy af)(q:ae)(Xq Mq:Qz)(w:U)(sb:Nat)(L:qM)(σ:fU):Prop where
 hz:Fz (λb=>¬Xq b) W0 w
 sub:∀b,Mq b->Xq b
 msb:Mq sb
 blk:GB w sb 95 (f.cells ts q++lM L σ)
 Pm:¬Xq L.gs
 gsl:L.gs<M (H w)
 rM:∀k,k<N σ.groups->Qp w (aD L.gs k)=O (Z (O (aD (L.gb k) 0)) (N (E σ.groups k [])) (L.GJ k))
 kg:∀k,k<N σ.groups->aW 141 161 (λb=>¬Xq b) w (L.gb k) (L.A k) (L.os k) (E σ.groups k [])/\Mq (L.gb k)/\N (E σ.groups k [])<=L.GJ k/\L.GJ k<=9223372036854775807
 apart:∀j k,j<N σ.groups->k<N σ.groups->L.gb j=L.gb k->j=k
 ag:w.ownsRow (M (H W0)) 118 2 L.av (N σ.ak) (σ.ak.flatMap dG)
 Pn:∀b,L.av.ownBlock=O b->Mq b
 bA:aF 141 (λb=>¬Xq b) w L.bA σ.bA
 pk:w.ownsRow (M (H W0)) 3 1 L.pv (N σ.picks) (σ.picks.map (Value.int J))
 Po:∀b,L.pv.ownBlock=O b->Mq b
def gQ(W0:U)(f:ay)(ts:Qy af)(q:ae)(Xq Mq:Qz)(w:U)(sb:Nat)(L':qM)(σ':fU)(w':U):Prop:=
 ∃X' M',dI W0 f ts q X' M' w' sb L' σ'/\Kept (λb=>¬Mq b) w w'/\(∀b,Mq b->M' b)/\(∀b,M' b->Mq b∨M (H w)<=b)/\(∀b,X' b↔Xq b∨M' b)
def bU(W0:U)(f:ay)(ts:Qy af)(q:ae)(Xq Mq:Qz)(w:U)(sb:Nat)(σ':fU)(w':U):Prop:=∃L',gQ W0 f ts q Xq Mq w sb L' σ' w'
def dI.lt{L:qM}(h:dI W0 f ts q Xq Mq w sb L σ){b:Nat}(hb:Xq b):¬Live W0 b/\b<M (H w):=by refine⟨λa=>h.hz.low b a hb,Nat.lt_of_not_le λa=>h.hz.high b a hb⟩
def dI.ne{L:qM}(h:dI W0 f ts q Xq Mq w sb L σ):L.av.ownBlock≠O sb/\L.pv.ownBlock≠O sb/\(∀b,L.av.ownBlock=O b->L.pv.ownBlock≠O b)/\∀k,k<N σ.groups->L.gb k≠sb/\L.av.ownBlock≠O (L.gb k)/\L.pv.ownBlock≠O (L.gb k):=by
 refine⟨fQ h.ag h.blk Qc,fQ h.pk h.blk Qc,λb e=>?_,λk g=>?_⟩
 .obtain⟨d,a⟩:=lg h.ag e;exact fQ h.pk (show GB w b _ d from a) Qc
 .obtain⟨c,a⟩:=(h.kg k g).1.tp;exact⟨λe=>by have:=GB.tp a (e ▸ h.blk);exact absurd this Qc,fQ h.ag a Qc,fQ h.pk a Qc⟩
theorem dI.next{L:qM}(h:dI W0 f ts q Xq Mq w sb L σ)(hk:Kept (λb=>b≠sb/\L.av.ownBlock≠O b/\L.pv.ownBlock≠O b) w w'){av pv:Qm}{ag:Qy bB}{pk:Qx}{st:Int}
  (hblk:GB w' sb 95 (f.cells ts q++lM { L with av:=av,pv:=pv } { σ with ak:=ag,picks:=pk,status:=st }))
  (hag:w'.ownsRow (M (H W0)) 118 2 av (N ag) (ag.flatMap dG)) (hav:av.ownBlock=L.av.ownBlock∨∃g,av.ownBlock=O g/\M (H w)<=g)
  (hpk:w'.ownsRow (M (H W0)) 3 1 pv (N pk) (pk.map (Value.int J))) (hpv:pv.ownBlock=L.pv.ownBlock∨∃g,pv.ownBlock=O g/\M (H w)<=g) :
  gQ W0 f ts q Xq Mq w sb { L with av:=av,pv:=pv } { σ with ak:=ag,picks:=pk,status:=st } w':=by
 have v:∀b,b<M (H w)->¬Xq b->av.ownBlock≠O b/\pv.ownBlock≠O b:=λb A u=>by
  refine⟨λe=>?_,λe=>?_⟩
  .rcases hav with j|⟨g,j,t⟩
   .exact u (h.sub _ (h.Pn b (j ▸ e)))
   grind
  .rcases hpv with j|⟨g,j,t⟩
   .exact u (h.sub _ (h.Po b (j ▸ e)))
   grind
 have i:∀b,b<M (H w)->¬Xq b->¬(Xq b∨av.ownBlock=O b∨pv.ownBlock=O b):=λb A u d=>by grind
 have p:Kept (λb=>¬(Xq b∨av.ownBlock=O b∨pv.ownBlock=O b)) w w':=hk.mono λb _ a=>⟨λe=>a (.inl (e ▸ h.sub _ h.msb)),λe=>a (.inl (h.sub _ (h.Pn b e))),λe=>a (.inl (h.sub _ (h.Po b e)))⟩;have n:∀b,(av.ownBlock=O b∨pv.ownBlock=O b)->Mq b∨M (H w)<=b:=λb e=>by
  rcases e with e|e
  .rcases hav with j|⟨g,j,t⟩
   .exact .inl (h.Pn b (j ▸ e))
   grind
  .rcases hpv with j|⟨g,j,t⟩
   .exact .inl (h.Po b (j ▸ e))
   grind
 have m:∀b,(av.ownBlock=O b∨pv.ownBlock=O b)->M (H W0)<=b/\b<M (H w'):=λb e=>by
  rcases e with e|e
  .exact Xg hag e
  .exact Xg hpk e
 have r:=h.ne;refine⟨λb=>Xq b∨av.ownBlock=O b∨pv.ownBlock=O b,λb=>Mq b∨av.ownBlock=O b∨pv.ownBlock=O b,⟨⟨?_,λb a d=>?_,λb a d=>?_⟩,λb a=>?_,.inl h.msb,hblk,i _ h.gsl h.Pm,Zy h.gsl hk.size,λk l=>?_,λk l=>?_,h.apart,hag,λb e=>.inr (.inl e),(h.bA.mono i).aV p,hpk,λb e=>.inr (.inr e)⟩,?_,λb a=>.inl a,λb a=>?_,λb=>?_⟩
 .exact h.hz.below.kept hk λb a=>⟨λe=>(h.lt (h.sub _ h.msb)).1 (e ▸ a),λe=>(h.lt (h.sub _ (h.Pn b e))).1 a,λe=>(h.lt (h.sub _ (h.Po b e))).1 a⟩
 .rcases d with d|d
  .exact h.hz.low b a d
  .have:=(m b d).1;have:=a.lt;omega
 .rcases d with d|d
  .exact h.hz.high b (ZN hk.size a) d
  .have:=(m b d).2;omega
 .rcases a with a|a
  .exact .inl (h.sub b a)
  .exact .inr a
 .refine Jl hk (h.rM k l) ⟨λe=>h.Pm (e ▸ h.sub _ h.msb),λe=>h.Pm (h.sub _ (h.Pn _ e)),λe=>h.Pm (h.sub _ (h.Po _ e))⟩
 .obtain⟨j,y,z⟩:=h.kg k l;refine⟨(j.mono i).aV (hk.mono λb _ a=>?_),.inl y,z⟩;rcases a with a|a
  .exact⟨λe=>a (.inl (e ▸ h.sub _ h.msb)),λe=>a (.inl (h.sub _ (h.Pn b e))),λe=>a (.inl (h.sub _ (h.Po b e)))⟩
  .rw[a];exact r.2.2.2 k l
 .exact hk.mono λb _ a=>⟨λe=>a (e ▸ h.msb),λe=>a (h.Pn b e),λe=>a (h.Po b e)⟩
 .grind
 .exact⟨λd=>by
   rcases d with d|d
   .exact .inl d
   .exact .inr (.inr d),λd=>by
   rcases d with d|d|d
   .exact .inl d
   .exact .inl (h.sub b d)
   .exact .inr d⟩
theorem gQ.trans{w1 w2:U}{L2:qM}{σ2:fU}{X1 M1:Qz}(hk:Kept (λb=>¬Mq b) w w1)(h1:∀b,Mq b->M1 b)(h2:∀b,M1 b->Mq b∨M (H w)<=b)(h3:∀b,X1 b↔Xq b∨M1 b)(h:gQ W0 f ts q X1 M1 w1 sb L2 σ2 w2):gQ W0 f ts q Xq Mq w sb L2 σ2 w2:=by
 obtain⟨g,i,j,e,k,l,m⟩:=h;refine⟨g,i,j,hk.trans' e (λb n d a=>?_),λb d=>k b (h1 b d),λb d=>?_,λb=>?_⟩
 .grind
 .rcases l b d with a|a
  .exact h2 b a
  .exact .inr (ZN hk.size a)
 grind
def dI.post{L:qM}(h:dI W0 f ts q Xq Mq w' sb L σ)(hk:Kept (λb=>¬Mq b) w w'):gQ W0 f ts q Xq Mq w sb L σ w':=
 ⟨Xq,Mq,h,hk,λ_ h=>h,λ_ h=>.inl h,λb=>⟨λa=>.inl a,λa=>by
  rcases a with a|a
  .exact a
  .exact h.sub b a⟩⟩
def bU.trans{W0:U}{f:ay}{ts:Qy af}{q:ae}{Xq Mq:Qz}{w w1 w2:U}{sb:Nat}{σ2:fU}{X1 M1:Qz}(hk:Kept (λb=>¬Mq b) w w1)(h1:∀b,Mq b->M1 b)(h2:∀b,M1 b->Mq b∨M (H w)<=b)(h3:∀b,X1 b↔Xq b∨M1 b)(h:bU W0 f ts q X1 M1 w1 sb σ2 w2):bU W0 f ts q Xq Mq w sb σ2 w2:=h.imp λ_ h=>gQ.trans hk h1 h2 h3 h
def dI.below{W0:U}{f:ay}{ts:Qy af}{q:ae}{Xq Mq:Qz}{w w':U}{sb:Nat}{L:qM}{σ:fU}(h:dI W0 f ts q Xq Mq w sb L σ)(hb:Bw w w'):dI W0 f ts q Xq Mq w' sb L σ where
 hz:=h.hz.next hb
 sub:=h.sub
 msb:=h.msb
 blk:=h.blk.keep (ZP (s:=λb=>b<M (H w)) hb (λ_ h _=>h)) h.blk.lt
 Pm:=h.Pm
 gsl:=Zy h.gsl hb.size
 rM:=λk a=>cB hb (h.rM k a)
 kg:=λk a=>⟨(h.kg k a).1.below hb,(h.kg k a).2⟩
 apart:=h.apart
 ag:=XM h.ag hb
 Pn:=h.Pn
 bA:=h.bA.below hb
 pk:=XM h.pk hb
 Po:=h.Po
theorem dI.other{Nq N' X':Qz}{L:qM}(h:dI W0 f ts q Xq Mq w sb L σ)(hN:∀b,Nq b->Xq b)(hd:∀b,Mq b->¬Nq b)(hk:Kept (λb=>¬Nq b) w w')(hf:∀b,N' b->Nq b∨M (H w)<=b)(hX:∀b,X' b↔Xq b∨N' b)(hl:∀b,N' b->b<M (H w'))(h0:∀b,N' b->M (H W0)<=b):dI W0 f ts q X' Mq w' sb L σ:=by
 have a:∀b,b<M (H w)->¬Xq b->¬X' b:=λb t i d=>by grind
 have m:Kept (λb=>¬X' b) w w':=hk.mono λb _ i l=>i ((hX b).2 (.inl (hN b l)));refine⟨⟨h.hz.below.kept hk λb i l=>h.hz.low b i (hN b l),λb i d=>?_,λb i d=>?_⟩,λb i=>(hX b).2 (.inl (h.sub b i)),h.msb,h.blk.keep hk (hd _ h.msb),a _ h.gsl h.Pm,Zy h.gsl hk.size,λk j=>Jl hk (h.rM k j) (λl=>h.Pm (hN _ l)),λk j=>?_,h.apart,Xf h.ag hk (λg e=>hd g (h.Pn g e)),h.Pn,(h.bA.mono a).aV m,Xf h.pk hk (λg e=>hd g (h.Po g e)),h.Po⟩
 .rcases (hX b).1 d with d|d
  .exact h.hz.low b i d
  .have:=h0 b d;have:=i.lt;omega
 .rcases (hX b).1 d with d|d
  .exact h.hz.high b (ZN hk.size i) d
  .have:=hl b d;omega
 .obtain⟨n,p,r⟩:=h.kg k j;refine⟨(n.mono a).aV (hk.mono λb _ i l=>?_),p,r⟩
  grind
theorem dI.group{L:qM}(h:dI W0 f ts q Xq Mq w sb L σ)(hs:s<N σ.groups)(hk:Kept (λb=>b≠L.gb s) w w'){A':Nat->Nat}{g':Qy aj}(hg:aW 141 161 (λb=>¬Xq b) w' (L.gb s) A' (L.os s) g')(hl:N g'=N (E σ.groups s [])) :
  dI W0 f ts q Xq Mq w' sb { L with A:=λk=>if k=s then A' else L.A k } { σ with groups:=σ.groups.set s g' }:=by
 have l:=h.ne;have i:=h.sub _ (h.kg s hs).2.1;have m:∀k,N (E (σ.groups.set s g') k [])=N (E σ.groups k []):=λk=>by grind
 have n:N (σ.groups.set s g')=N σ.groups:=Jh ..;refine⟨⟨h.hz.below.kept hk λb a e=>(h.lt i).1 (e ▸ a),h.hz.low,λb a=>h.hz.high b (ZN hk.size a)⟩,h.sub,h.msb,?_,h.Pm,Zy h.gsl hk.size,λk d=>?_,λk d=>?_,λj k y d e=>?_,Xf h.ag hk (λg e hg=>(l.2.2.2 s hs).2.1 (hg ▸ e)),h.Pn,h.bA.aV (hk.mono λb _ a e=>a (e ▸ i)),Xf h.pk hk (λg e hg=>(l.2.2.2 s hs).2.2 (hg ▸ e)),h.Po⟩
 .have:=h.blk.keep hk (λe=>(l.2.2.2 s hs).1 e.symm);have e:lM { L with A:=λk=>if k=s then A' else L.A k } { σ with groups:=σ.groups.set s g' } = lM L σ:=by unfold lM;simp only;rw[n]
  rw[e];exact this
 .show w'.cell? _=O (Z _ (N (E (σ.groups.set s g') k [])) _)
  rw[m k];exact Jl hk (h.rM k (by rw[<-n];exact d)) (λe=>h.Pm (e ▸ i))
 .have p:k<N σ.groups:=by rw[<-n];exact d
  obtain⟨t,u,v⟩:=h.kg k p;show aW _ _ _ _ (L.gb k) (if k=s then A' else L.A k) (L.os k) (E (σ.groups.set s g') k [])/\Mq (L.gb k)/\N (E (σ.groups.set s g') k [])<=L.GJ k/\L.GJ k<=9223372036854775807;rw[m k];refine⟨?_,u,v⟩;by_cases e:k=s
  .grind
  .rw[Zg e,oM,Zg (λz=>e z.1.symm)];refine t.aV (hk.mono λb _ a r=>?_);rcases a with a|a
   .exact a (r ▸ i)
   .exact e (h.apart k s p hs (a.symm.trans r))
 .exact h.apart j k (by rw[<-n];exact y) (by rw[<-n];exact d) e
theorem dI.better{L:qM}(h:dI W0 f ts q Xq Mq w sb L σ)(hk:Kept (λb=>b≠sb) w w'){b':Nat}(hblk:GB w' sb 95 (f.cells ts q++lM { L with bA:=b' } { σ with bA:=t }))(ht:aF 141 (λb=>¬Xq b) w' b' t) :
  dI W0 f ts q Xq Mq w' sb { L with bA:=b' } { σ with bA:=t }:=by have d:=h.ne;have i:=h.sub _ h.msb;refine⟨⟨h.hz.below.kept hk λb j e=>(h.lt i).1 (e ▸ j),h.hz.low,λb j=>h.hz.high b (ZN hk.size j)⟩,h.sub,h.msb,hblk,h.Pm,Zy h.gsl hk.size,λk a=>Jl hk (h.rM k a) (λe=>h.Pm (e ▸ i)),λk a=>⟨(h.kg k a).1.aV (hk.mono λb _ j e=>?_),(h.kg k a).2⟩,h.apart,Xf h.ag hk (λg e l=>d.1 (l ▸ e)),h.Pn,ht,Xf h.pk hk (λg e l=>d.2.1 (l ▸ e)),h.Po⟩;grind
def Ka(rk:Nat->Int)(s:Nat)(gs:Qy (Qy aj))(a:Qy bB)(k:Nat):(List.range (k+1)).foldl (iN rk s gs) a=iN rk s gs ((List.range k).foldl (iN rk s gs) a) k:=by rw[ZE,ZM];rfl
theorem lq.small{gs:Qy (Qy aj)}{t:bB}(h:lq n gs t)(hn:n<=5)(hg:N gs<=31):t.1<32/\t.2<32:=by
 rcases h with⟨h0,i,hi,e⟩|⟨_,h1,h2,_⟩
 .rw[h0,e];have:i=0∨i=1∨i=2∨i=3∨i=4:=X
  grind
 .omega
def NP:(bI g).isSome=(E g 0 nD).2.isSome:=by
 match g with
 |[]=>rfl
 |(_,Qs)::_=>rfl
 |(_,O _)::_=>rfl
def adK(f:ay)(ts:Qy af)(q:ae)(L:qM)(σ:fU):(f.cells ts q++lM L σ)[14]? = O L.av:=by obtain⟨v0,g,i,v3,v4,v5,j,k,l,v9,a,b,d,e,-⟩:=XY f ts q;rw[e];rfl
def Yd(f:ay)(ts:Qy af)(q:ae)(L:qM)(σ:fU)(av:Qm):(f.cells ts q++lM L σ).setIfInBounds 14 av=f.cells ts q++lM { L with av:=av } σ:=by obtain⟨v0,g,i,v3,v4,v5,j,k,l,v9,a,b,d,e,-⟩:=XY f ts q;rw[e];rfl
theorem NQ{L:qM}(h:dI W0 f ts q Xq Mq w sb L σ)(s:Nat)(hs:s<32)(hgl:N σ.groups<=31)(hg0:∀k,k<N σ.groups->0<N (E σ.groups k []))(ha:∀t∈σ.ak,t.1<32/\t.2<32)(hal:N σ.ak<=900000) :
  Calls V 147 #[Y (O (aD sb 0)),I Qq (s:Int)] w λe w'=>(∃v,e=Qv v)/\bU W0 f ts q Xq Mq w sb { σ with ak:=nM aZ s σ.groups σ.ak } w':=by
 obtain⟨v0,v1,v2,v3,v4,v5,v6,v7,v8,v9,aT,aU,aV,bZ,-⟩:=XY f ts q;obtain⟨l,z⟩:=eY (λk=>(List.range k).foldl (iN aZ s σ.groups) σ.ak:Nat->Qy bB);have ax:Qn (∀k,l (k+1)=iN aZ s σ.groups (l k) k):=λk=>by rw[z];exact Ka _ _ _ _ _
 have HE:=Zh (by  rw[z];rfl:l (N σ.groups)=nM aZ s σ.groups σ.ak)
 have zJ:Qn (∀k,k<=N σ.groups->(∀t∈l k,t.1<32/\t.2<32)/\N (l k)<=901000):=λk hk=>by
  rw[z];refine⟨λt ht=>?_,?_⟩
  .rcases uT _ _ _ ht with h1|⟨j,hj,_,_,h1⟩
   .exact ha t h1
   grind
  .refine ZN (uU _ _ _ _ _) ?_;rw[ZI];omega
 have az:Qn (gQ W0 f ts q Xq Mq w sb { L with av:=L.av } { σ with ak:=l 0 } w):=by rw[z];exact h.post (ZO _ _)
 have aA:Qp w (aD sb 13)=O (Z (O (aD L.gs 0)) (N σ.groups) L.NG):=by have:=h.blk.cell 13;rw[bZ]at this;exact this
 have Q:=Zh hg0;have aB:Qn (∀(k:Nat) (x:U),k<32->Ce 184 #[I Qq (k:Int),I Qq (s:Int)] x (Qr (decide (k &&& s≠0)))):=λk x hk=>DT k s X X x;have HS:=Zh hs;have aC:=hgl;obtain⟨gl,W⟩:=eY (N σ.groups);rw[<-W]at hgl aC HE zJ aA Q;have aF:=Zh W;go_enter func147,ntmps147;go_wp2;go_loopw [12] (λiv wr=>∃(k:Nat) (av:Qm),k<=gl/\iv=I J (k:Int)/\Qn (gQ W0 f ts q Xq Mq w sb { L with av:=av } { σ with ak:=l k } wr)) (λiv _=>gl-(intOf iv).toNat)
 case atStart=>exact⟨0,L.av,ZB _,rfl,az.o⟩
 case round=>
  obtain⟨k,av,hk,rfl,HP⟩:=hrel;by_cases aj:k<gl
  .obtain⟨X1,M1,K,aJ,aK,aL,aM⟩:=HP.o;have p:k<N σ.groups:=by rw[<-aF.o];exact aj
   have aR:Qp wr (aD L.gs k)=O (Z (O (aD (L.gb k) 0)) (N (E σ.groups k [])) (L.GJ k)):=K.rM k p;obtain⟨aN,-⟩:=K.kg k p;have C:=pX aN (Q.o k aj) (L.GJ k);change Calls V 183 #[Z (O (aD (L.gb k) 0)) (N (E σ.groups k [])) (L.GJ k)] wr (λe w'=>e=Qv (FI (L.A k) (E (E σ.groups k []) 0 nD).2)/\w' = wr) at C;have n:=ax.o k;unfold iN at n;rw[NP]at n;have m:=Zh K;have J2:Qn (Kept (λb=>¬Mq b) w wr/\(∀b,Mq b->M1 b)/\(∀b,M1 b->Mq b∨M (H w)<=b)/\(∀b,X1 b↔Xq b∨M1 b)):=⟨aJ,aK,aL,aM⟩;have r:=aB.o k wr X;have aS:IntKind.u64.wrap (k:Int)=(k:Int):=by rw[IntKind.wrap_u64];omega
   generalize N (E σ.groups k [])=ggl,L.GJ k=ggc,L.gb k=ggb at*
   cases hy:(E (E σ.groups k []) 0 nD).2 with
   |none =>
    rw[hy]at C n;have qD:Qn (l (k+1)=l k):=n;change Calls _ _ _ wr (λe w'=>e=Qv (Y Qs)/\w' = wr) at C;go_wp2_with fail;refine C.mono ?_;rintro e wz ⟨rfl,d⟩;have u:=d.symm;subst u;go_wp2;go_roundw
    case rel=>grind
    case measure=>exact XK
   |some y =>
    rw[hy]at C n;change Calls _ _ _ wr (λe w'=>e=Qv (Y (O (aD (L.A k y.1) 0)))/\w' = wr) at C;generalize L.A k y.1=yp at*;by_cases au:k &&& s=0
    .have qD:Qn (l (k+1)=[(s,k),(k,s)].foldl (iG aZ) (l k)):=by grind
     rw[Zr (by simpa using au)]at r;obtain⟨w1,aW,aa,B⟩:=bC wr #[I Qq (s:Int),I Qq (k:Int),I Qq (k:Int),I Qq (s:Int)] 118;have D:=m.o.below aa;have R:=zJ.o k hk;have Lm:=JZ sb (M (H W0)) _ av (l k) [(s,k),(k,s)] (O (aD (M (H wr)) 0)) 2 w1 D.blk (adK f ts q _ _) D.ag D.hz.below.size ⟨Qa,λi hi=>⟨M (H wr),0,rfl,by
      rw[ZC];have aG:i<2:=hi
      match i,aG with
      |0,_=>exact⟨B.cell 0,B.cell 1⟩
      |1,_=>exact⟨B.cell 2,B.cell 3⟩⟩⟩ (λa e=>by
       injection e with e;rw[<-e];exact show M (H wr)≠sb/\av.ownBlock≠O (M (H wr)) from ⟨λP=>Qk m.o.blk.lt,λP=>Qk ((Xg m.o.ag P).2)⟩) (by have:=R.2;simp;omega) R.1 (λt ht=>by
       have aH:=HS.o;rcases List.mem_cons.1 ht with rfl|ht
       .exact⟨aH,by show k<32;omega⟩
       grind)
     have G:=Zh aa;go_wp2_with fail;refine C.mono ?_;rintro e wz ⟨rfl,d⟩;have u:=d.symm;subst u;go_wp2_with fail;refine r.mono ?_;rintro e wz ⟨rfl,d⟩;have u:=d.symm;subst u;go_wp2_with fail;refine Lm.mono ?_;rintro e w2 ⟨⟨rv,rfl⟩,ah,aO,aP,ai,aQ⟩;have HF:Qn (gQ W0 f ts q Xq Mq w sb { L with av:=ah } { σ with ak:=l (k+1) } w2):=by
      rw[qD.o];have aI:Kept (λb=>b≠sb/\av.ownBlock≠O b/\L.pv.ownBlock≠O b) wr w2:=(ZP G.o (λ_ h _=>h)).trans (ai.mono (λb _ h=>⟨h.1,h.2.1⟩));refine gQ.trans J2.o.1 J2.o.2.1 J2.o.2.2.1 J2.o.2.2.2 (m.o.next aI (av:=ah) (pv:=L.pv) (ag:=[(s,k),(k,s)].foldl (iG aZ) (l k)) (pk:=σ.picks) (st:=σ.status) ?_ aP ?_ ?_ (.inl rfl))
      .have:=aO;rw[Yd]at this;exact this
      .rcases aQ with h|⟨g,h,hg⟩
       .exact .inl h
       .exact .inr ⟨g,h,ZN G.o.size hg⟩
      .refine Xf m.o.pk ((ZP G.o (λ_ h _=>h)).trans ai) (λg e=>?_);have S:=m.o.ne;exact⟨λP=>S.2.1 (P ▸ e),λP=>S.2.2.1 g P e⟩
     go_wp2;go_roundw
     case rel=>grind
     case measure=>exact XK
    .have qD:Qn (l (k+1)=l k):=by grind
     rw[Zi (by simpa using au)]at r;go_wp2_with fail;refine C.mono ?_;rintro e wz ⟨rfl,d⟩;have u:=d.symm;subst u;go_wp2_with fail;refine r.mono ?_;rintro e wz ⟨rfl,d⟩;have u:=d.symm;subst u;go_wp2;go_roundw
     case rel=>grind
     case measure=>exact XK
  .have p:gl=k:=X
   have HF:Qn (bU W0 f ts q Xq Mq w sb { σ with ak:=nM aZ s σ.groups σ.ak } wr):=by refine⟨{ L with av:=av },?_⟩;have:=HP.o;rw[<-p,HE.o]at this;exact this
   go_wp2;go_end0;exact⟨⟨_,rfl⟩,HF.o⟩
