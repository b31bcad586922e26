import Derived.Test.YtkfenjgalicikaaGreatDoorS10
import Derived.Test.YtkfenjgalicikaaGreatDoorS11
import Derived.Test.YtkfenjgalicikaaGreatDoorS13
import Derived.Test.YtkfenjgalicikaaGreatDoorS16
set_option linter.all false
set_option maxRecDepth 100000
set_option maxHeartbeats 0
namespace Go.Proofs.Zz
open Go.RowKit Go.Shelf Go.Proofs.Tryz
open List renaming length->N,getD->E
open Go.Value renaming slice->Z,int->I,pointer->Y,bool->Qq,agg->Qt
open Go.Proofs.Tryz renaming prog->V
open Option renaming some->O,none->Qr
open Go.IntKind renaming i64->J,u64->Qp
open Bool renaming false->F,true->T
open Go renaming World->U,Value->Ql
open Go.World renaming heap->H,setCell->Qn,cell?->Qo
open _root_.Array renaming size->M
open Go.RowKit renaming Hid->Qm
open Go.Obj renaming cells->Qs
open Go.Ending renaming returned->Qu
variable {gb i k n s sb:Nat} {g:JK aK} {x:Nat × bF} {Tp Tq t:TypeId} {Fq Mq Xq:Pm} {W0 w w' w1 w2:U} {A:Nat->Nat} {os:JK aA} {p:aK} {av fO fP fQ lv pv v v0 v1 v2 v3 v4 v5 v6 v7 v8 v9:Ql} {bs:JK (Nat × bF)} {f:bC} {ts:JK af} {q:ae} {ls:JK oL} {a:Act} {σ:fE} {ag:JK bB} {P:Program} {ops:Array Oper} {rest:JK Nat} {o:Oper} {Q:Exit->Act->U->Prop}
def adC(sb:Nat)(v0 v1 v2 v3 v4 v5 v6 v7 v8 v9 fO fP fQ gs bv pk:Ql)(aa:LM)(n ac:Nat)(ct:Bool)(st:Int)(w:U)(hg:GB w sb 138 #[v0,v1,v2,v3,v4,v5,v6,v7,v8,v9,fO,fP,fQ,gs,Z aa n ac,Qq ct,bv,pk,I J st]) :
  Calls V 149 #[Y (O (aD sb 0))] w λe i=>(∃v,e=Qu v)/\aB (λb=>b≠sb) w i/\GB i sb 138 #[v0,v1,v2,v3,v4,v5,v6,v7,v8,v9,fO,fP,fQ,gs,Z aa n ac,Qq ct,bv,pk,I J (if 0<n then st else if ct=T then 3 else 2)]:=by
 have q:=hg.at 14;have j:=hg.at 15;have k:=hg.at 18;have l:=hg.frozen 18;have g:Qm (∀x:Int,GB (Qn w (aD sb 18) (I J x)) sb 138 #[v0,v1,v2,v3,v4,v5,v6,v7,v8,v9,fO,fP,fQ,gs,Z aa n ac,Qq ct,bv,pk,I J x]):=λx=>hg.set 18 (I J x);have m:=Zh hg;obtain⟨R,f⟩:∃R,R=if 0<n then st else if ct=T then 3 else 2:=⟨_,rfl⟩;rw[<-f];have a:=Zh f;clear hg f;by_cases p:0<n
 .have d:=Zh (a.o.trans (Zd p));clear a;go_enter func149,ntmps149;go_wp2;refine Jr (results_none rfl _ _ _) rfl ?_;exact⟨⟨_,rfl⟩,Xj _ _,by rw[d.o];exact m.o⟩
 .obtain rfl:n=0:=X
  cases ct with
  |true =>
   have d:Qm (R=3):=a.o.trans Qa;clear a;go_enter func149,ntmps149;go_wp2;go_end0;exact⟨⟨_,rfl⟩,Xu _ _ _ (λh=>h rfl),by rw[d.o];exact g.o 3⟩
  |false =>
   have d:Qm (R=2):=a.o.trans Qa;clear a;go_enter func149,ntmps149;go_wp2;go_end0;exact⟨⟨_,rfl⟩,Xu _ _ _ (λh=>h rfl),by rw[d.o];exact g.o 2⟩
def adD(sb:Nat)(pa:LM)(n pc:Nat)(w:U)(hc:Qo w (aD sb 17)=O (Z pa n pc)) :
  Ce 43 #[Y (O (aD sb 0))] w (I J (n:Int)):=by go_enter func43,ntmps43;go_wp2;go_ret;exact⟨rfl,rfl⟩
def F4(g:JK aK)(hk:k<N g):fB (g.take (k+1))=mQ (fB (g.take k)) (E g k sJ):=by unfold fB;exact lV mQ [] g sJ hk
theorem Nh(h:x∈fB (g.take k)):∃p∈g,p.2=O x:=by
 rcases oz _ [] x h with h|⟨p,a,e⟩
 .cases h
 grind
def Bj(g:JK aK)(k:Nat):N (fB (g.take k))<=N g:=by have:=Eh (g.take k) [];rw[Jb]at this;unfold fB;simp at this;omega
theorem dJ.axO(h:dJ Tq Tp Fq w gb A os g)(hp:p∈g)(hx:p.2=O x) :
  decide (A x.1∈(fB (g.take k)).map λy=>A y.1)=(fB (g.take k)).any (λy=>y.1==x.1):=by
 rw[Xa,Zi,List.any_eq_true,Xc];constructor
 .rintro⟨y,b,e⟩;obtain⟨d,a,f⟩:=Nh b;exact⟨y,b,by rw[beq_iff_eq];exact h.inj d a p hp y x f hx e⟩
 grind
theorem Ni(h:dJ 144 206 Fq w gb A os g)(hl:N g<=20)(gc:Nat) :
  Calls V 223 #[Z (O (aD gb 0)) (N g) gc] w λe w'=>∃v,e=Qu v/\w'.ownsRow (M (H w)) 136 1 v (N ((fB g).map λx=>A x.1)) (((fB g).map λx=>A x.1).map λx=>Value.pointer (O (aD x 0)))/\Bw w w':=by
 have HG:=Zh h;obtain⟨d,j⟩:=eY (λk=>(fB (g.take k)).map λx=>A x.1:Nat->JK Nat);have ae:Qm (∀k,k<N g->(E g k sJ).2=Qr->d (k+1)=d k):=λk u e=>by rw[j];simp only;rw[F4 g u];unfold mQ;rw[e]
 have af:Qm (∀k x,k<N g->(E g k sJ).2=O x->d (k+1)=if A x.1∈d k then d k else d k++[A x.1]):=λk x u e=>by
  have ht:=h.axO (k:=k) (uW u) e;have e1:d (k+1)=(if (fB (g.take k)).any (λy=>y.1==x.1)=T then fB (g.take k) else fB (g.take k)++[x]).map λx=>A x.1:=by rw[j];simp only;rw[F4 g u];unfold mQ;rw[e]
  grind
 have ag:Qm (∀k,N (d k)<=20):=λk=>by rw[j];simp only;rw[ZX];exact ZU (Bj g k) hl
 have ah:Qm (d (N g)=(fB g).map λx=>A x.1):=Qb;have ai:Qm (d 0=[]):=by rw[j];rfl
 have YG:Qm (∀k,∀a∈d k,∃c t,w.heap[a]? = O (Obj.cells c t (0,0))):=λk a ha=>by rw[j]at ha;obtain⟨y,hy,rfl⟩:=Xc.1 ha;obtain⟨p,hp,e⟩:=Nh hy;obtain⟨c,hc⟩:=(h.iE p hp y e).blk;exact⟨c,_,hc⟩
 have Li:Qm (∀k x,k<N g->(E g k sJ).2=O x->∃c t,w.heap[A x.1]? = O (Obj.cells c t (0,0))):=λk x u hx=>by obtain⟨c,hc⟩:=(h.iE _ (uW u) x hx).blk;exact⟨c,_,hc⟩
 clear h j;generalize (fB g).map (λx=>A x.1)=R at*;go_enter func223,ntmps223;go_wp2;go_loopw [3,8] (λpv iv wr=>∃k:Nat,k<=N g/\iv=I J (k:Int)/\Qm (wr.ownsRow (M (H w)) 136 1 pv (N (d k)) ((d k).map λx=>Value.pointer (O (aD x 0))))/\Qm (Bw w wr)) (λ_ iv _=>N g-(intOf iv).toNat)
 case atStart=>exact⟨0,ZR _,rfl,by rw[ai.o];exact XC _ _ _ _,Za _ _⟩
 case round=>
  obtain⟨k,u,rfl,C,D⟩:=hrel;obtain⟨G,xm,K,rfl⟩:=Xz C.o;by_cases aT:k<N g
  .obtain⟨c0,c1⟩:=(HG.o.aj D.o).cells aT;have l:=Zh (ae.o k aT);have m:Qm _:=λx=>af.o k x aT
   have n:Qm _:=λx=>Li.o k x aT;generalize E os k iU=ov at*;obtain⟨oa,oc,ox⟩:=ov;simp only[aA.val]at c0;generalize (E g k sJ).2=pp at*
   cases pp with
   |none =>
    have q:=Zh (l.o rfl);simp only[YC]at c1;have f:Bw wr (wr.alloc (Qs #[Z oa (N ox) oc,Y Qr] 206)):=fo _ _;have P:Qm ((wr.alloc (Qs #[Z oa (N ox) oc,Y Qr] 206)).ownsRow (M (H w)) 136 1 (Z G xm K) (N (d (k+1))) ((d (k+1)).map λx=>Value.pointer (O (aD x 0)))):=by rw[q.o];exact Ja C.o f
    have Q:=Zh (D.o.trans (f.mono D.o.size));clear l m n C f;go_wp2;go_roundw
    case rel=>grind
    case measure=>exact XK
   |some x =>
    simp only[YC]at c1;obtain⟨z,W⟩:=eX (wr.alloc (Qs #[Z oa (N ox) oc,Y (O (aD (A x.1) 0))] 206));have f:Bw wr z:=by rw[<-W];exact fo _ _
    have En:=D.o.trans (f.mono D.o.size);have d1:Qo z (aD (M (H wr)) 1)=O (Y (O (aD (A x.1) 0))):=by rw[<-W];simp
    have r:=Ja C.o f;have ak:=ag.o k;obtain⟨ya,yc,hy,aa,-⟩:=vF r X;simp only[Value.slice.injEq]at hy;obtain⟨rfl,rfl,rfl⟩:=hy;have K9:∀a,(∃c t,w.heap[a]? = O (Obj.cells c t (0,0)))->∃c t,z.heap[a]? = O (Obj.cells c t (0,0)):=λa ⟨c,t,e⟩=>⟨c,t,(En.block _ (Xx.1 e).1).trans e⟩;have B:=Ll G K (d k) (A x.1) z aa (K9 _ (n.o x rfl)) (λa ha=>K9 _ (YG.o k a ha));obtain⟨Yj,P,Q⟩:=lX (m.o x rfl) r En;have ni:=En.size;clear K9 aa r f En l m n C;generalize A x.1=xa' at*;by_cases L:xa'∈d k
    .have q:=Zh (Yj.o.trans (Zd L));rw[Zl L]at B;have Nk:Qm (z.ownsRow (M (H w)) 136 1 (Z G (N (d k)) K) (N (d (k+1))) ((d (k+1)).map λx=>Value.pointer (O (aD x 0)))):=by rw[q.o];exact P.o
     clear Yj L P q;go_wp2_with fail;refine mR B λw4 i=>?_;have i:=i.symm;subst i;clear B;go_wp2;go_roundw
     case rel=>grind
     case measure=>exact XK
    .have q:=Zh (Yj.o.trans (Zk L));rw[ZK L]at B;obtain⟨v',w5,sF,mW,kC,⟨za,zm,zc,rfl⟩,jl⟩:=Yv z (M (H w)) (Z G (N (d k)) K) (d k) P.o X ni xa' 142;have zW:Qm (w5.ownsRow (M (H w)) 136 1 (Z za zm zc) (N (d (k+1))) ((d (k+1)).map λx=>Value.pointer (O (aD x 0)))):=by rw[q.o];exact mW
     have qd:=Zh (Q.o.trans (kC.aj ni (λb hb e=>Qj ((Xy P.o e).1))));clear Yj L mW kC jl q;go_wp2_with fail;refine mR B λw4 i=>?_;have i:=i.symm;subst i;clear B;go_wp2_with (first|(at_builtin;refine XJ rfl (.tmp 22) (.tmp 25) 142 rfl (Z G (N (d k)) K) (Z (O (aD (M (H z)) 0)) 1 1) (Z za zm zc) w5 rfl rfl sF ?_));clear sF;go_wp2;go_roundw
     case rel=>grind
     case measure=>exact XK
  .have S:N g=k:=X
   have HF:Qm (wr.ownsRow (M (H w)) 136 1 (Z G xm K) (N R) (R.map λx=>Value.pointer (O (aD x 0)))):=by rw[<-ah.o,S];exact C.o
   clear S;go_wp2;go_ret;exact⟨_,rfl,HF.o,D.o⟩
def YH(Tq:TypeId)(Fq:Pm)(w:U)(pv:Ql)(o:Option bF):Prop:=(o=Qr/\pv=Y Qr)∨∃t a,o=O t/\pv=Y (O (aD a 0))/\bM Tq Fq w a t
theorem UT(h:dJ 144 206 Fq w gb A os g){x0:U}(VX:Bw w x0)(hl:N g<=20)(gc:Nat)(jw:Int) :
  Calls V 257 #[Z (O (aD gb 0)) (N g) gc,I J jw] x0 λe w'=>∃pv,e=Qu pv/\YH 144 Fq w pv (zZ g jw)/\Bw x0 w':=by
 have m:=Ni (h.aj VX) hl gc;have aa:=Zh VX;obtain⟨b,f⟩:=eY (fB g);obtain⟨n,q⟩:=eY (λk=>(b.take k).foldl (pW jw) Qr:Nat->Option bF);have AY:N b<=20:=by rw[f];have:=Bj g (N g);rw[Z0]at this;omega
 have ae:Qm (∀k,k<N b->bM 144 Fq w (E (b.map λx=>A x.1) k 0) (E b k (0,uT)).2/\n (k+1)=pW jw (n k) (E b k (0,uT))):=λk hk=>by
  refine⟨?_,by rw[q];exact lV _ _ b (0,uT) hk⟩;have hm:E b k (0,uT)∈fB g:=by rw[<-f];grind
  rw[show E (b.map λx=>A x.1) k 0=A (E b k (0,uT)).1 by grind];rcases oz g [] _ hm with h0|⟨p,hp,e⟩
  .cases h0
  .exact h.iE p hp _ e
 have V6:Qm (n 0=Qr/\n (N b)=zZ g jw):=by show _/\_;rw[q];exact⟨rfl,by show (b.take (N b)).foldl _ _=_;rw[Z0,f];rfl⟩
 have j:Qm (N (b.map λx=>A x.1)=N b):=ZX _;rw[<-f]at m;clear h f q VX;generalize (b.map λx=>A x.1)=xs,zZ g jw=R at*;go_enter func257,ntmps257;go_wp2_with fail;refine m.mono ?_;rintro e w1 ⟨v1,rfl,z,bL⟩;clear m;obtain⟨xa,xc,rfl,B,-⟩:=vF z (by rw[j.o];omega);rw[j.o];obtain⟨af,C⟩:=bH B bL;clear z B bL;go_wp2;go_loopw [5,11] (λpv iv wr=>∃(k:Nat) (u:LM),k<=N b/\iv=I J (k:Int)/\pv=Y u/\Qm (YH 144 Fq w (Y u) (n k))/\Qm (Bw w1 wr)) (λ_ iv _=>N b-(intOf iv).toNat)
 case atStart=>exact⟨0,Qr,ZR _,rfl,rfl,.inl ⟨V6.o.1,rfl⟩,Za _ _⟩
 case round=>
  obtain⟨k,u,hk,rfl,rfl,S,W⟩:=hrel;have l:=aO aa.o (aO C.o W.o);by_cases aT:k<N b
  .obtain⟨bb,au,rfl,D⟩:=gy.get (af.o.aj W.o) (i:=k) (by rw[j.o];exact aT);have ak:=D k (by rw[j.o];exact aT);obtain⟨ht,a⟩:=ae.o k aT;generalize E xs k 0=x at*;obtain⟨p,G,LX⟩:=(ht.aj l).rC;have Ps:Qm (∀y c,Bw wr y->Qo y (aD c 0)=O (I J jw)->Cb 258 #[Z p.aH.ad (N p.aH.xs) p.aH.cap,Z (O (aD c 0)) 1 1] y (Qq (aN p.aH.xs [jw]))):=λy c hy Q=>
    vC _ (O (aD c 0)) _ 1 _ [jw] y (Zc hy G.ok.aH) ⟨Qa,λi hi=>⟨c,0,rfl,Qb⟩⟩ G.ok.cap
   have c3:Qo wr (aD x 3)=O (Z p.aH.ad (N p.aH.xs) p.aH.cap):=G.c3;have c5:=G.c5;unfold pW at a;have eo:p.aH.xs=_:=congrArg dG.aH LX;have ec:p.aJ=_:=congrArg dG.aJ LX;rw[show (E b k (0,uT)).2.d.aH=_ from eo.symm,show (E b k (0,uT)).2.d.aJ=_ from ec.symm]at a;obtain⟨L,hz,HY,HN⟩:∃L:Bool,((u=Qr/\L=aN p.aH.xs [jw])∨∃r cr:Nat,u=O (aD r 0)/\Qo wr (aD r 5)=O (I Qp (cr:Int))/\L=(aN p.aH.xs [jw]&&decide (p.aJ<cr)))/\Qm (L=T->YH 144 Fq w (Y (O (aD x 0))) (n (k+1)))/\Qm (L=F->YH 144 Fq w (Y u) (n (k+1))):=by
    refine⟨_,?_,λe=>.inr ⟨_,x,a.trans (Zd e),rfl,ht⟩,λe=>by rw[a,Zk (by rw[e];simp)];exact S.o⟩;rcases S.o with⟨e,e2⟩|⟨t,r,e,e2,hr⟩
    .rw[e]
     cases e2;exact .inl ⟨rfl,Qa⟩
    .obtain⟨pr,ag,ah⟩:=(hr.aj l).rC;rw[e]
     cases e2;exact .inr ⟨r,_,rfl,(congrArg dG.aJ ah) ▸ ag.c5,rfl⟩
   generalize N p.aH.xs=pol,p.aH.ad=poa,p.aH.cap=poc,aN p.aH.xs [jw]=SB,p.aJ=cx at*;have HZ:=Zh hz;clear D G LX ht a l hz eo ec p;obtain⟨wq,ai⟩:=eY (wr);subst ai;go_wp2_with fail;refine wH wq λa=>?_;refine wA6 0 a ?_;refine wR 6 λK P=>?_;go_simp;refine oA P a λa=>?_;clear P K;refine wR 7 λK P=>?_;go_simp;refine mR (Ps.o _ _ a Qa) λw2 hb=>?_;refine oT P a hb λa=>?_;clear P K hb Ps;have v:=Zh (aO W.o a);refine rR 8 a ?_;cases SB
   .refine wS9 9 a ?_;refine wS6 18 a ?_;refine rR 24 a ?_;refine wD ?_;clear a;refine gQ ?_;exact⟨k+1,u,X,Qe,rfl,HN.o (by rcases HZ.o with⟨-,h⟩|⟨_,_,-,-,h⟩ <;> simpa using h),v.o⟩
   rcases HZ.o with⟨rfl,hv⟩|⟨r,cr,rfl,c6,hv⟩
   all_goals
    have HT:=Zh hv;clear hv
   rotate_left
   rcases Jd cx cr with Q|Q
   all_goals refine wB3 9 a ?_
   refine wB9 12 a ?_;refine wB2 21 a ?_
   rotate_left
   refine wB9 12 a ?_;refine wB2 21 a ?_
   rotate_left
   refine wS9 12 a ?_;refine wS2 21 a ?_
   all_goals
    refine wB1 23 a ?_;refine rR 24 a ?_;refine wD ?_;clear a;refine gQ ?_;exact⟨k+1,_,X,Qe,rfl,by first|exact HY.o HT.o|exact HY.o (by rw[HT.o];simpa using Q)|exact HN.o (by rw[HT.o];simpa using Q),v.o⟩
  .obtain rfl:k=N b:=X
   have HR:=Zh S.o;rw[V6.o.2]at HR;clear S l;go_wp2;go_ret;exact⟨_,rfl,HR.o,aO C.o W.o⟩
def alF{w3:U}{base:Nat}{TS TT:TypeId}{CO:Array Ql}{v':Ql}{xs:JK Ql}(hg:GB w3 sb TS (CO.setIfInBounds 14 av))(ho:w3.ownsRow base TT 2 v' n xs)(h2:Bw w w2)(h4:aB (λb=>av.ownBlock≠O b) w2 w3)(fG:TT≠TS) :
  GB (Qn w3 (aD sb 14) v') sb TS (CO.setIfInBounds 14 v')/\(Qn w3 (aD sb 14) v').ownsRow base TT 2 v' n xs/\aB (λb=>b≠sb/\av.ownBlock≠O b) w (Qn w3 (aD sb 14) v'):=by
 refine⟨?_,?_,?_⟩
 .have:=hg.set 14 v'
  rwa [Array.setIfInBounds_setIfInBounds]at this
 .exact Xw ho (s:=λb=>b≠sb) (Xu _ _ _ (λh=>h rfl)) (λg e h=>JF ho hg fG (h ▸ e))
 .exact((Xl h2).trans (h4.mono (λb _ h=>h.2))).trans (Xu _ _ _ (λh=>h.1 rfl))
def alG{W:U}{B:Nat}{u:Ql}(h:GB W B 165 #[v,u]):(loadVar 165 (aD B 0)).run V W=.ok (Qt #[v,u]) W:=by obtain⟨c0,a⟩:=h.k2;simp[go_sem,c0,a]
theorem ahL(sb base i:Nat)(CO:Array Ql)(av:Ql)(ag:JK bB)(w:U)(hg:GB w sb 138 CO)(h14:CO[14]? = O av)(bG:w.ownsRow base 165 2 av (N ag) (ag.flatMap iA))(hl:N ag<=1000000)(hi:i<N ag) :
  Calls V 148 #[Y (O (aD sb 14)),I J (i:Int)] w λe w'=>e=Qu (Qt #[I Qp ((E ag i (0,0)).1:Int),I Qp ((E ag i (0,0)).2:Int)])/\∃z,GB w' sb 138 (CO.setIfInBounds 14 z)/\w'.ownsRow base 165 2 z (N (ag.eraseIdx i)) ((ag.eraseIdx i).flatMap iA)/\aB (λb=>b≠sb/\av.ownBlock≠O b) w w'/\z.ownBlock=av.ownBlock:=by
 obtain⟨ni,aj⟩:=Xx.1 h14;have q:CO.setIfInBounds 14 av=CO:=by grind
 have B:GB w sb 138 (CO.setIfInBounds 14 av):=by rw[q];exact hg
 obtain⟨aa,A,rfl,R⟩:=CJ bG hl;obtain⟨tb,aC,v,oq,S⟩:=R.2 i hi;rcases bG.2 with⟨_,h0⟩|⟨g,cap,iw,hs,hbg,-⟩
 .omega
 injection hs with tq _ hs2;subst tq hs2;injection v with v;injection v with aE4 aE5;subst aE4 aE5;obtain⟨m,hm⟩:∃m,N ag=i+1+m:=⟨N ag-(i+1),X⟩;have C:N (ag.eraseIdx i)=i+m:=Qb;have ah:=Zh (JF bG hg Qc);have Y8:=(hg.cell 14).trans h14;have F6:=(Xy bG rfl).2;obtain⟨w1,dB,W,sK⟩:=bI w #[I Qp 0,I Qp 0] 165;have D:=cB W Y8;rw[hm]at D;obtain⟨e0,e1⟩:=kP W oq S;rw[ZT]at e0 e1;generalize (E ag i (0,0)).1=tl at e0 ⊢;generalize (E ag i (0,0)).2=tr at e1 ⊢;obtain⟨w2,aF,n,ae⟩:=bI w1 #[I Qp (tl:Int),I Qp (tr:Int)] 165;have j:=W.trans (n.mono W.size);have az:=cB n D;have a:=Ja bG j;have G:=YW base g A i m (ag.flatMap iA) w2 (by rw[hm]at a;exact a) (Nv ag) X;rw[alr]at G;have r:=sK.lt;have K:=hg.lt;obtain⟨ak,au,ax,ay,EY⟩:=Wu (B.bT (Xl (s:=λb=>b<M (H w)) j) hg.lt) ae (sK.up n) j ni;have t:Qm (g<M (H w)):=F6;have Uy:Qm (sb<M (H w)/\M (H w)<M (H w1)):=⟨K,r⟩;rw[C];have h1:(i:Int)<(i:Int)+1+(m:Int):=X;have aA:wrap64 ((i:Int)+1)=(i:Int)+1:=by unfold wrap64;omega
 clear W n j sK ae bG a R oq S hm C hg B q aj h14 Y8 ni hi hl F6 r K hbg;generalize (ag.eraseIdx i).flatMap iA=FX at*;go_enter func148,ntmps148;go_wp2_with fail;refine G.mono ?_;rintro e w3 ⟨rfl,af,f⟩;have k:=ak.o.bT f (λe=>ah.o (by rw[e];rfl));have c3:Qo w3 (aD sb 14)=O (Z (O (aD g 0)) (N ag) A):=by rw[k.cell 14,JD,Zd rfl,Zd EY.o]
 have f3:=k.frozen 14;go_upto_region 3 with fail;obtain⟨w4,y⟩:=eY (Qn w3 (aD sb 14) (Z (O (aD g 0)) (i+m) A));have u:aB (λb=>b≠sb) w3 w4:=by rw[y];exact Xu _ _ _ (λh=>h rfl)
 have L:=(au.o.bT f (Qk t.o Uy.o)).bT u (Qj Uy.o);have d:=(ax.o.bT f (Qj t.o)).bT u (Qj Uy.o);have P:=alF k af ay.o (f.mono (λb _ h e=>h (by rw[e];rfl))) (by decide:165≠138);rw[<-y]at P ⊢;obtain⟨x0,x1⟩:=L.k2;obtain⟨y0,y1⟩:=d.k2;have z0:=d.frozen 0;have z1:=d.frozen 1;obtain⟨w5,zg⟩:=eY (Qn (Qn w4 (aD (M (H w)) 0) (I Qp (tl:Int))) (aD (M (H w)) 1) (I Qp (tr:Int)));have l:aB (λb=>b≠M (H w)) w4 w5:=by rw[zg];exact(Xu _ _ _ (λh=>h rfl)).trans (Xu _ _ _ (λh=>h rfl))
 have Q:GB w5 (M (H w)) 165 #[I Qp (tl:Int),I Qp (tr:Int)]:=by rw[zg];exact(d.set 0 _).set 1 _
 have rT:=Zh (alG Q);have HF:Qm (GB w5 sb 138 (CO.setIfInBounds 14 (Z (O (aD g 0)) (i+m) A))/\w5.ownsRow base 165 2 (Z (O (aD g 0)) (i+m) A) (i+m) FX/\aB (λb=>b≠sb/\(Value.slice (O (aD g 0)) (N ag) A).ownBlock≠O b) w w5):=⟨P.1.bT l (Qj Uy.o),Xw P.2.1 l (λg' e=>by have e2:g=g':=Jy e;have:=t.o;omega),P.2.2.dL l (λb hb _=>Jo hb)⟩;have ai:=Zh zg;clear y zg L d P u l Q f af k c3 f3;go_wp2;rw[<-ai.o];exact Jr (uV (p:=4) rfl rfl rT.o) rfl ⟨rfl,_,HF.o.1,HF.o.2.1,HF.o.2.2,rfl⟩
theorem ahC(ts:JK af)(q:ae)(l r:bF)(g:JK aK)(cl:IC)(acc:JK bF)(key:Int):N (ll ts q l r g cl acc key)<=N acc+2:=by unfold ll;grind
def Ev(ts:JK af)(q:ae)(l r:bF)(g:JK aK)(cl:IC):∀(ks:IC) (acc:JK bF),N (ks.foldl (ll ts q l r g cl) acc)<=N acc+2*N ks
 |[],_=>Qa
 |k::ks,acc=>by refine ZU (Ev ts q l r g cl ks _) ?_;have:=ahC ts q l r g cl acc k;simp only[Zu];omega
theorem alC(s:Nat):N (dZ s)<=64:=by unfold dZ bS;grind
def SA(h:s<2 ^ n)(hn:n<=64):N (dZ s)<=n:=by
 unfold dZ bS;rw[ZX];have d:∀m,N ((List.range m).filter λi=>s.testBit i)<=min m n:=by
  intro m
  induction m with
  |zero=>simp
  |succ m ih =>
   rw[ZG,List.filter_append,Zt];by_cases a:s.testBit m=T
   .have e:m<n:=by
     by_cases b:m<n
     .exact b
     .rw[ZN (ZO h (ZP X X))]at a
      cases a
    simp[a];omega
   .simp[a];omega
 exact ZU (d 64) X
def gG.base{base qY:Nat}(h:gG Tq Tp Fq base w v bs)(hb:qY<=base):gG Tq Tp Fq qY w v bs:=
 ⟨Je h.own hb,λx a=>⟨(h.iE x a).1,ZU hb (h.iE x a).2.1,(h.iE x a).2.2⟩,h.Hu⟩
def gG.mono{Tq Tp:TypeId}{Fq G:Pm}{base:Nat}{w:U}{v:Ql}{bs:JK (Nat × bF)}(h:gG Tq Tp Fq base w v bs)(hs:∀b,b<M (H w)->Fq b->G b):gG Tq Tp G base w v bs:=
 ⟨h.own,λx a=>⟨(h.iE x a).1.mono (λb e d=>⟨hs b e d.1,d.2⟩),(h.iE x a).2⟩,h.Hu⟩
def gG.ayu{s:Pm}{base:Nat}(h:gG Tq Tp Fq base w v bs)(hk:aB s w w')(hF:∀b,Fq b->s b)(hv:∀g,v.ownBlock=O g->s g):gG Tq Tp Fq base w' v bs:=
 ⟨Xw h.own hk hv,λx a=>⟨(h.iE x a).1.eG (hk.mono λb _ d=>hF b d.1),(h.iE x a).2.1,ZO (h.iE x a).2.2 hk.size⟩,h.Hu⟩
def afr{m nb:Nat}(hv:∀g,v.ownBlock=O g->n<=g/\g<m)(hn:n<=nb/\nb<m)(hF:∀b,m<=b->Fq b){z:Nat}(b:Nat)(_:b<z)(h:Fnw Fq n m b):Fv (λb=>Fq b/\b≠nb) v b:=by
 rcases h with⟨h1,h2⟩|h1
 .exact⟨⟨h1,X⟩,λe=>Qj (hv b e)⟩
 .exact⟨⟨hF b h1,X⟩,λe=>Qj (hv b e)⟩
theorem adz(Eq:vS f ts q W0)(hz:Fz Fq W0 w)(a:Nat)(l:bF)(ht:bM 144 Fq w a l)(Aw:oK q l)(hg:dJ 144 206 Fq w gb A os g)(F6:N g<=20)(gc:Nat)(Sy:∀p∈g,∀x,p.2=O x->oK q x.2)(hs:(df g).isSome=T) :
  Calls V 224 #[Qt (f.cells ts q),Y (O (aD a 0)),Z (O (aD gb 0)) (N g) gc] w (oC 144 136 Fq w (jJ ts q (bE ts q) l g)):=by
 obtain⟨v0,v1,v2,v3,v4,v5,v6,v7,v8,v9,fO,fP,fQ,iq,-⟩:=Jh f ts q;obtain⟨r,hr⟩:=ZJ.1 hs;obtain⟨y,hy,rfl⟩:=Sw hr;have bf:0<N g:=by
  cases g with
  |nil=>cases hs
  |cons _ _=>simp
 have bg:=hg.iE _ (uW bf) y hy;have bn:=Sy _ (uW bf) y hy;have bS:∀x,Bw w x->Ce 252 #[Z (O (aD gb 0)) (N g) gc] x (Y (O (aD (A y.1) 0))):=λx C=>by have:=zi (hg.aj C) bf gc;rw[hy]at this;exact this
 generalize A y.1=ra,y.2=r at*;obtain⟨pl,ay,bA⟩:=ht.rC;obtain⟨pr,bB,di⟩:=bg.rC;have bq:pl.ah=l.d.ah:=congrArg dG.ah bA;have bu:pr.ah=r.d.ah:=congrArg dG.ah di;have bU:pl.aH.xs=l.d.aH:=congrArg dG.aH bA;obtain⟨j,az⟩:=eY (dZ (bX (bE ts q) l.d.ah r.d.ah));have aa:=yX (bE ts q) l.d.ah r.d.ah;rw[XN]at aa;have fM:N j<=8:=by rw[az];exact ZU (SA aa (Qj Eq.ko)) Eq.ko
 have zT:cK (N q.wh) j:=by rw[az];exact yV aa
 have dL:Qm (∀x,Bw w x->Cb 255 #[Qt #[v0,v1,v2,v3,v4,v5,v6,v7,v8,v9,fO,fP,fQ],I Qp (pl.ah:Int),I Qp (pr.ah:Int)] x (I Qp ((bX (bE ts q) l.d.ah r.d.ah:Nat):Int))):=λx C=>by rw[<-iq,bq,bu];exact YI Eq (hz.next C) _ _ Aw.au bn.au
 have Lm:Qm (∀x,Calls V 170 #[I Qp ((bX (bE ts q) l.d.ah r.d.ah:Nat):Int)] x λe w'=>∃v,e=Qu v/\w'.ownsRow (M (H x)) 3 1 v (N j) (j.map (Value.int J))/\Bw x w'):=λx=>by rw[az];exact M9 _ (ZO aa (ZU (ZP (n:=2) X Eq.ko) Qc)) x
 obtain⟨KP,bD⟩:=eY (λkey=>lZ ts q (fq 4 j key) l.d.ah r.d.ah:Int->Int × Int × Bool);have bz:Qm (∀(y:U) (iv:aA),Bw w y->iv.xs=j->gP Fq y iv->∀(x:U) (b mb:Nat) (mt:bF) (kind key:Int),Bw y x->3<=kind/\kind<=5->bM 144 Fq w mb mt->oK q mt->Qo x (aD b 0)=O (Y (O (aD a 0)))->Qo x (aD b 1)=O (Y (O (aD mb 0)))->Calls V 128 #[Qt #[v0,v1,v2,v3,v4,v5,v6,v7,v8,v9,fO,fP,fQ],Qt #[I J kind,I J 0,I J 0,I J 0,Z iv.ad (N j) iv.cap,I J key,Z Qr 0 0],Z (O (aD b 0)) 2 2] x (dU 144 (Fnw Fq (M (H y)) (M (H x))) x (aS ts q (fq kind j key) [l,mt]))):=λy iv hy hi gH x b mb mt kind key C hk fJ hm hc Hg=>by have up:∀{c u},bM 144 Fq w c u->bM 144 (Fnw Fq (M (H y)) (M (H x))) x c u:=λh=>(h.mono λb hb hF=>.inl ⟨hF,ZO hb hy.size⟩).aj (aO hy C);have ag:=(gH.mono (G:=Fnw Fq (M (H y)) (M (H x))) λb hb hF=>.inl ⟨hF,hb⟩).aj C;subst hi;rw[<-iq];exact Yz Eq (Fz.cut (hz.next hy) C) ⟨kind,0,0,0,iv,key,iU⟩ ⟨ag.oO,ag.inf,ag.nil,mh x,vP.nil _ _,λ_=>rfl,Zb _,by show N iv.xs<=1000;omega,ZR _⟩ a mb b l mt (up ht) Aw (up fJ) hm hc Hg hk.1 hk.2 zT
 have dM:Qm (∀(x:U) (ia:LM) (ic:Nat) (key:Int),Bw w x->aP x ia j->Cb 256 #[Qt #[v0,v1,v2,v3,v4,v5,v6,v7,v8,v9,fO,fP,fQ],Qt #[I J 4,I J 0,I J 0,I J 0,Z ia (N j) ic,I J key,Z Qr 0 0],Qt #[I J pl.kind,I Qp (pl.ah:Int),I Qp (pl.aG:Int),Z pl.aH.ad (N pl.aH.xs) pl.aH.cap,I Qp (pl.size:Int),I Qp (pl.aJ:Int)],Qt #[I J pr.kind,I Qp (pr.ah:Int),I Qp (pr.aG:Int),Z pr.aH.ad (N pr.aH.xs) pr.aH.cap,I Qp (pr.size:Int),I Qp (pr.aJ:Int)]] x (.tuple #[I J (KP key).1,I J (KP key).2.1,Qq (KP key).2.2])):=λx ia ic key C hi=>by have:=Nu f ts q ⟨4,0,0,0,⟨ia,ic,j⟩,key,iU⟩ pl pr x Eq.ok ((Eq.oO hz).aj C) hi ay.ok.ah bB.ok.ah;rw[<-iq,bD];simp only;rw[<-bq,<-bu];exact this
 have dN:Qm (∀(x:U) (S:Int),Bw w x->Calls V 257 #[Z (O (aD gb 0)) (N g) gc,I J S] x λe w'=>∃pv,e=Qu pv/\YH 144 Fq w pv (zZ g S)/\Bw x w'):=λx S C=>UT hg C F6 gc S;have dO:Qm (∀(x:U) (c:Nat) (S:Int),Bw w x->Qo x (aD c 0)=O (I J S)->Cb 258 #[Z pl.aH.ad (N pl.aH.xs) pl.aH.cap,Z (O (aD c 0)) 1 1] x (Qq (aN l.d.aH [S]))):=λx c S C hc=>by rw[<-bU];exact vC _ (O (aD c 0)) _ 1 _ [S] x (Zc C ay.ok.aH) ⟨Qa,λi hi=>⟨c,0,rfl,Qb⟩⟩ ay.ok.cap
 obtain⟨UA,dm⟩:=bH ay bB;obtain⟨W,aW⟩:=eY (λk=>(j.take k).foldl (ll ts q l r g j) [aS ts q (fq 3 j 0) [l,r]]:Nat->JK bF);have dP:Qm (∀k,k<N j->W (k+1)=if (KP (E j k 0)).2.2=T then (match zZ g (KP (E j k 0)).2.1 with|none=>W k++[aS ts q (fq 4 j (E j k 0)) [l,r]]|some m=>if aN l.d.aH [(KP (E j k 0)).1]=T then W k++[aS ts q (fq 4 j (E j k 0)) [l,r]]++[aS ts q (fq 5 j (E j k 0)) [l,m]] else W k++[aS ts q (fq 4 j (E j k 0)) [l,r]]) else W k):=λk hk=>by rw[aW,bD];exact lV _ _ j 0 hk
 have dQ:Qm (∀k,N (W k)<=20):=λk=>by rw[aW];refine ZU (Ev ts q l r g j (j.take k) _) ?_;grind
 have bV:Qm (W 0=[aS ts q (fq 3 j 0) [l,r]]/\W (N j)=jJ ts q (bE ts q) l g):=by show _/\_;unfold jJ;simp only;rw[aW,hr,az];exact⟨rfl,Qa⟩
 have dR:Qm (∀S m,zZ g S=O m->oK q m):=λS m hm=>by
  rcases FW S _ Qr m hm with h0|⟨n,hn⟩
  .cases h0
  .rcases oz g [] _ hn with h0|⟨p,hp,e⟩
   .cases h0
   .exact Sy p hp _ e
 obtain⟨HR,dn⟩:=bH bg bn;have V7:Qm (∀b,M (H w)<=b->Fq b):=hz.high;rw[iq];clear iq Eq hz ht Aw hg Sy hs hr hy bg bn bA di bq bu bU az aa zT bD ay bB aW;obtain⟨w1,dB,bL,L⟩:=bI w #[v0,v1,v2,v3,v4,v5,v6,v7,v8,v9,fO,fP,fQ] 118;obtain⟨a0,a1,a2,a3,a4,a5,a6,a7,a8,a9,wU,yD,yE⟩:=L.vV;obtain⟨-,p1,-⟩:=UA.o.aj bL;obtain⟨-,q1,-⟩:=dm.o.aj bL;have bW:=bS _ bL;obtain⟨bG,CE⟩:=bH bL L;clear bL L bS;go_enter func224,ntmps224;go_wp2_with fail;refine mR bW λwz fK=>?_;have xu:=fK.symm;subst xu;clear bW dB;go_wp2_with fail;refine wH w1 λB=>?_;refine GZ 0 B ?_;refine rR 10 B ?_;refine wR 11 λK hK=>?_;go_simp;refine mR (dL.o _ (aO bG.o B)) λwy hb=>?_;refine oT hK B hb λB=>?_;have dS:=B.size;refine wR 12 λK hK=>?_;go_simp;refine Jg (Lm.o _) ?_;rintro e w2 ⟨v,rfl,hv,hb⟩;obtain⟨⟨ia,ic,P⟩,rfl,rfl,eQ,eT,gH,eU⟩:=lJ hv X;simp only[aA.val]at*;refine oT hK B hb λB=>?_;refine wR 13 λK hK=>?_;go_simp;refine hK.o _ _ B λB=>?_;refine wD ?_;try simp only[pV]
 have ai:Qm (gP Fq w2 ⟨ia,ic,P⟩):=⟨eQ,λ_ z e=>V7.o _ (ZU bG.o.size (ZU dS (eT z e))),gH,eU⟩;obtain⟨aX,t⟩:=bH (CE.o.up B) (aO bG.o B);obtain⟨w3,fV,dw,aC⟩:=bI w2 #[Y (O (aD a 0)),Y (O (aD ra 0))] 136;have dV:=bz.o w2 ⟨ia,ic,P⟩ t.o rfl ai.o w3 (M (H w2)) ra r 3 0 dw X HR.o dn.o aC.k2.1 aC.k2.2;obtain⟨a0,a1,a2,a3,a4,a5,a6,a7,a8,a9,wU,yD,yE⟩:=aX.o.vV;have aQ:=Zh dw;go_wp2_with fail;refine dV.mono ?_;rintro e w4 ⟨r1,rfl,hT,lN,R,aY⟩;obtain⟨w5,zg,bJ,eX⟩:=bI w4 #[Y (O (aD r1 0))] 136;have dW:=ZU t.o.size aQ.o.size;obtain⟨eZ,qd⟩:=bH (gG.one (ZU aQ.o.size aY.size) eX (hT.mono (G:=Fq) λb _ h=>h.elim And.left λh=>V7.o b (ZU dW h)) bJ (Zb _) (ZU aQ.o.size lN) (ZO R bJ.size)) (aO aQ.o (aO aY bJ));go_wp2;clear zg;go_loopw [9,42] (λpv iv wr=>∃(k:Nat) (bs:JK (Nat × bF)),k<=N P/\iv=I J (k:Int)/\Qm (bs.map Prod.snd=W k)/\Qm (gG 144 136 Fq (M (H w2)) wr pv bs)/\Qm (Bw w2 wr)) (λ_ iv _=>N P-(intOf iv).toNat)
 case atStart=>exact⟨0,[(r1,_)],ZR _,rfl,bV.o.1.symm,eZ.o,qd.o⟩
 case round=>
  obtain⟨k,bs,hk,rfl,bK,HL,HW⟩:=hrel;obtain⟨pa,pm,pc,rfl⟩:=Xz HL.o.own;by_cases aT:k<N P
  .obtain⟨kb,Y9,rfl,FJ⟩:=Q4 (Zc HW.o ai.o.oO) aT;have dX:=FJ k aT;simp only at dX;have nT:=dP.o k aT;have YU:N bs<=20:=by have:=dQ.o k;rw[<-bK.o,ZX]at this;exact this
   generalize E P k 0=key at*;obtain⟨⟨k1,k2,k3⟩,bN⟩:∃p,KP key=p:=⟨_,rfl⟩;rw[bN,<-bK.o]at nT;have HX:=Zh nT;obtain⟨y1,dx,aF,DF⟩:=bI wr #[I J 4,I J 0,I J 0,I J 0,Z (O (aD kb Y9)) (N P) ic,I J key,Z Qr 0 0] 43;have aR:=aO t.o (aO HW.o aF);have bY:=aX.o.up (aO HW.o aF);obtain⟨a0,a1,a2,a3,a4,a5,a6,a7,a8,a9,wU,yD,yE⟩:=bY.vV;obtain⟨n0,n1,n2,n3,n4,n5,n6⟩:=DF.k7;obtain⟨p0,p1,p2,p3,p4,p5,-,-⟩:=UA.o.aj aR;obtain⟨q0,q1,q2,q3,q4,q5,-,-⟩:=dm.o.aj aR;simp only[aA.val]at p3 q3;have We:Qm _:=λx (C:Bw y1 x)=>dM.o x (O (aD kb Y9)) ic key (aO aR C) (Zc (aO aF C) (Zc HW.o ai.o.oO));rw[bN]at We;obtain⟨V9,fe,dz⟩:=lX aF DF dx;clear FJ bN aF DF aR bY dx nT;go_wp2_with fail;rw[dz.o];clear dz;refine wH y1 λB=>?_;refine GZ 0 B ?_;refine wR 10 λK hK=>?_;go_simp;refine mR (We.o _ B) λy2 hb=>?_;refine oT hK B hb λB=>?_;clear hK K hb We;refine wA6 11 B ?_;refine wR 17 λK hK=>?_;go_simp;refine hK.o _ _ B λB=>?_;refine wD ?_;try simp only[pV]
   have D:=Zh (aO V9.o B);have LP:=fe.o.up B;cases k3
   .obtain⟨HF,fo⟩:=bH (HL.o.aj D.o) (aO HW.o D.o);refine gQ ?_;exact⟨k+1,bs,X,Qe,HX.o.symm,HF.o,fo.o⟩
   have ni:=HW.o.size;have fT:=D.o.size;have F9:M (H wr)<M (H y2):=LP.lt;have dY:∀g,(Value.slice pa pm pc).ownBlock=O g->M (H w2)<=g/\g<M (H wr):=λg e=>Xy HL.o.own e;have ed:=Zh ((HL.o.mono (G:=λb=>Fq b/\b≠M (H wr)) λb hb h=>⟨h,X⟩).aj D.o);have ek:=aX.o.up (aO HW.o D.o);obtain⟨y3,fZ,dA,aC⟩:=bI y2 #[Y (O (aD a 0)),Y (O (aD ra 0))] 136;have eu:=aO (aO HW.o D.o) dA;have eB:=bz.o w2 ⟨O (aD kb Y9),ic,P⟩ t.o rfl ai.o y3 (M (H y2)) ra r 4 key eu X HR.o dn.o aC.k2.1 aC.k2.2;obtain⟨a0,a1,a2,a3,a4,a5,a6,a7,a8,a9,wU,yD,yE⟩:=ek.vV;obtain⟨n0,n1,n2,n3,n4,n5,n6⟩:=LP.k7;obtain⟨dC,fu,dD⟩:=lX dA LP dY;go_wp2_with fail;refine eB.mono ?_;rintro e y4 ⟨r4,rfl,hT,lN,R,aY⟩;have fU:=dC.o.size;have ak:=aO dC.o aY;obtain⟨v5,y5,sF,fw,fA,kC,gm,za,zm,zc,rfl⟩:=Em ed.o ak X X (hT.mono (afr (λg e=>Qj (dD.o g e)) ⟨X,X⟩ λb h=>V7.o b (Qj t.o.size))) X R;have eD:=(fu.o.up ak).bT kC (λe=>Qj (dD.o _ e));have bZ:Bw w2 y5:=(aO (aO HW.o D.o) ak).trans fA;have eF:=dN.o y5 k2 (aO t.o bZ);obtain⟨aI,dE,aL⟩:=lX fw eD bZ;go_wp2_with (first|(at_builtin;refine XJ rfl (.tmp 66) (.tmp 73) 142 rfl (Z pa pm pc) (Z (O (aD (M (H y4)) 0)) 1 1) (Z za zm zc) y5 rfl rfl sF ?_));go_wp2_with fail;refine eF.mono ?_;rintro e y6 ⟨pv,rfl,fB,aM⟩;rcases fB with⟨hmn,rfl⟩|⟨m,mb,hmn,rfl,hm⟩
   .have HN:Qm ((bs++[(r4,aS ts q (fq 4 P key) [l,r])]).map Prod.snd=W (k+1)):=by have:=HX.o;rw[hmn]at this;show _=_;simpa using this.symm
    obtain⟨HF,ax⟩:=bH ((aI.o.aj aM).mono (G:=Fq) λb _ h=>h.1) (aO aL.o aM);refine gQ ?_;exact⟨k+1,_,X,Qe,HN.o,HF.o,ax.o⟩
   obtain⟨-,-,-,p3,-⟩:=UA.o.aj (aO t.o (aO aL.o aM));simp only[aA.val]at p3;obtain⟨y7,gp,dF,fC⟩:=bI y6 #[I J k1] 3;have eG:=dO.o y7 (M (H y6)) k1 (aO t.o (aO aL.o (aO aM dF))) (fC.at 0);obtain⟨fD,HM,fE⟩:=lX (aO aM dF) hm (dR.o _ _ hmn);have hX:=HX.o;rw[hmn]at hX;have cu:=Zh hX;clear hX hmn HX;generalize aN l.d.aH [k1]=SB at*;go_wp2_with fail;refine mR eG λy8 EZ=>?_;have Q:=Zh (aO fD.o EZ);cases SB
   .have HN:=Zh (by  simpa using cu.o.symm:(bs++[(r4,aS ts q (fq 4 P key) [l,r])]).map Prod.snd=W (k+1))
    obtain⟨HF,ax⟩:=bH ((aI.o.aj Q.o).mono (G:=Fq) λb _ h=>h.1) (aO aL.o Q.o);refine gQ ?_;exact⟨k+1,_,X,Qe,HN.o,HF.o,ax.o⟩
   have av:=dE.o.up Q.o;have n0:=av.at 0;have z0:=av.frozen 0;go_upto_region 14 with fail;obtain⟨y9,aZ⟩:=eY (Qn y8 (aD (M (H wr)) 0) (I J 5));rw[<-aZ];have cz:GB y9 (M (H wr)) 43 #[I J 5,I J 0,I J 0,I J 0,Z (O (aD kb Y9)) (N P) ic,I J key,Z Qr 0 0]:=by rw[aZ];exact av.set 0 _
   have aU:aB (λb=>b≠M (H wr)) y8 y9:=by rw[aZ];exact Xu _ _ _ (λh=>h rfl)
   have eH:=av.lt;have aV:=(aO aL.o Q.o).trans (aU.aj X (λb hb=>X));have cB:∀g,(Value.slice za zm zc).ownBlock=O g->M (H w2)<=g/\g<M (H y5):=λg e=>Xy aI.o.own e;have cO:=(aI.o.aj Q.o).ayu aU (λb h=>h.2) (λg e=>λe'=>JF aI.o.own dE.o Qc (e' ▸ e));have cZ:=aX.o.up aV;clear aZ n0 z0 av;obtain⟨a0,a1,a2,a3,a4,a5,a6,a7,a8,a9,wU,yD,yE⟩:=cZ.vV;obtain⟨n0,n1,n2,n3,n4,n5,n6⟩:=cz.k7;obtain⟨x1,sK,bO,L⟩:=bI y9 #[Y (O (aD a 0)),Y (O (aD mb 0))] 136;have dh:=bz.o w2 ⟨O (aD kb Y9),ic,P⟩ t.o rfl ai.o x1 (M (H y9)) mb m 5 key (aO aV bO) X HM.o fE.o L.k2.1 L.k2.2;obtain⟨fF,bP,bQ,fG⟩:=De cO aV bO cB;have eO:M (H y8)<=M (H y9):=aU.size;have eP:=Q.o.size;clear cz aU aV cO cZ bO L cB;go_wp2_with fail;refine dh.mono ?_;rintro e x2 ⟨r5,rfl,hT,lN,R,bR⟩;have tq:=bQ.o.size;obtain⟨v6,x3,dH,dI,dK,fH,fI,ua,um,uc,rfl⟩:=Em fF.o (aO bQ.o bR) (Qj bP.o.size) Qi (hT.mono (afr (λg e=>Qj (fG.o g e)) ⟨X,X⟩ λb h=>V7.o b (Qk t.o.size bP.o.size))) X R;have HF:=Zh (dI.mono (G:=Fq) λb _ h=>h.1);have ax:Qm (Bw w2 x3):=(aO bP.o (aO bQ.o bR)).trans dK;have HN:Qm ((bs++[(r4,aS ts q (fq 4 P key) [l,r])]++[(r5,aS ts q (fq 5 P key) [l,m])]).map Prod.snd=W (k+1)):=by show _=_;simpa using cu.o.symm
   clear dh hT lN R bR tq dI dK fH fI sK eO eP eH;go_wp2_with (first|(at_builtin;refine XJ rfl (.tmp 91) (.tmp 98) 142 rfl (Z za zm zc) (Z (O (aD (M (H x2)) 0)) 1 1) (Z ua um uc) x3 rfl rfl dH ?_));clear dH a0 a1 a2 a3 a4 a5 a6 a7 a8 a9 wU yD yE n0 n1 n2 n3 n4 n5 n6;refine gQ ?_;exact⟨k+1,_,X,Qe,HN.o,HF.o,ax.o⟩
  .obtain rfl:k=N P:=X
   have HN:=Zh (bK.o.trans bV.o.2);go_wp2;go_ret;exact⟨_,bs,rfl,HN.o,HL.o.base t.o.size,aO t.o HW.o⟩
structure Br(Tq Tl:TypeId)(Fq:Pm)(base:Nat)(w:U)(lv:Ql)(ls:JK oL)(bs:JK (Nat × bF)):Prop where
 own:w.ownsRow base Tl 1 lv (N ls) (ls.map oL.val)
 aac:jP ls=bs.map Prod.fst
 each:∀x∈ls,gy w (O x.ad) x.xs/\x.ad.block<M (H w)/\lv.ownBlock≠O x.ad.block
 iE:∀x∈bs,bM Tq (Fv Fq lv) w x.1 x.2/\base<=x.1/\x.1<M (H w)
 Hu:(bs.map Prod.fst).Pairwise (· < ·)
theorem Br.nil(Tq Tl:TypeId)(Fq:Pm)(base:Nat)(w:U):Br Tq Tl Fq base w (Z Qr 0 0) [] []:=
 ⟨XC _ _ _ _,rfl,(λx a=>by cases a),(λx a=>by cases a),List.Pairwise.nil⟩
def adA(ls:JK oL)(x:oL):jP (ls++[x])=jP ls++x.xs:=by unfold jP;simp
theorem Br.lists{Tl:TypeId}{base:Nat}(h:Br Tq Tl Fq base w lv ls bs):∃d cap,lv=Z d (N ls) cap/\alD w d ls:=by
 have b:∀i,i<N ls->E ls i U8∈ls:=λi a=>Qb;rcases XP h.own with⟨rfl,h0⟩|⟨g,cap,rfl,_,_,hc⟩
 .have:=Zo h0;subst this;exact⟨Qr,0,rfl,λi a=>absurd a Qa,λi a=>absurd a Qa⟩
 .refine⟨_,cap,rfl,λi a=>⟨g,0,rfl,?_⟩,λi a=>(h.each _ (b i a)).1⟩
  grind
def Kk(ts:JK af)(q:ae)(conc:JK Nat)(l:bF)(g:JK aK)(h8:N conc<=8):0<N (jJ ts q conc l g)/\N (jJ ts q conc l g)<=17:=by
 have b:=yX conc l.d.ah ((df g).getD uT).d.ah;have e:=SA b X;unfold jJ;simp only;refine⟨?_,?_⟩
 .generalize dZ (bX conc l.d.ah ((df g).getD uT).d.ah)=cl;have key:∀(a:IC) (acc:JK bF),0<N acc->0<N (a.foldl (ll ts q l ((df g).getD uT) g cl) acc):=by
   intro a
   induction a with
   |nil=>intro acc h;exact h
   |cons k a ih =>
    intro acc h;refine ih _ ?_;unfold ll;simp only;split
    .split
     .simp
     .split <;> simp
    .exact h
  exact key _ _ Qa
 .refine ZU (Ev ts q l _ g _ _ _) ?_;simp;omega
def Tryz.ahH:(V.info? 142).map (λi=>(i.zero,i.size,i.bytes))=O (O (Z Qr 0 0),1,24):=Qd
theorem ahI(W:U)(base:Nat)(v:Ql)(ls:JK oL)(bG:W.ownsRow base 142 1 v (N ls) (ls.map oL.val))(hl:N ls<=1000)(hb:base<=M (H W))(x:oL)(ty:TypeId) :
  ∃d e,(Builtin.append_ #[285,285] ty #[v,Z (O (aD (M (H W)) 0)) 1 1]).run V (W.alloc (Qs #[x.val] 142))=.ok d e/\
   e.ownsRow base 142 1 d (N (ls++[x])) ((ls++[x]).map oL.val)/\aB (λb=>v.ownBlock≠O b) W e/\(∃a m c,d = Z a m c)/\(d.ownBlock=v.ownBlock∨d.ownBlock=O (M (H W)+1)):=by
 obtain⟨i0,k,f,g,i⟩:=XB Tryz.ahH;obtain⟨d,e,l,n,p,q,r⟩:=lg (P:=V) W base 285 ty 142 i0 _ 1 24 underlying285 k f g i rfl Qc v (N ls) _ bG hb [x.val] rfl (λu j=>by
  rw[XH]at j;rw[j];rfl) hl Qc
 grind
theorem ahJ{base:Nat}{y:U}{us:JK (Nat × bF)}(h:Br 144 142 Fq base w lv ls bs)(hb:Bw w y)(hw:base<=M (H w))(hl:N ls<=1000){ua:Addr}{uc:Nat}(hu:gG 144 136 (Fv Fq lv) (M (H w)) y (Z (O ua) (N us) uc) us)(K9:gy y (O ua) (us.map Prod.fst))(hun:M (H w)<=ua.block/\ua.block<M (H y)) :
  ∃j z,(Builtin.append_ #[285,285] 285 #[lv,Z (O (aD (M (H y)) 0)) 1 1]).run V (y.alloc (Qs #[Z (O ua) (N us) uc] 142))=.ok j z/\
   Br 144 142 Fq base z j (ls++[⟨ua,uc,us.map Prod.fst⟩]) (bs++us)/\Below base y z/\∃a m c,j = Z a m c:=by
 have r:=ZU hw hb.size;have t:∀b,lv.ownBlock=O b->base<=b/\b<M (H w):=λb e=>Xy h.own e;obtain⟨j,z,A,B,f,C,D⟩:=ahI y base lv ls (Ja h.own hb) hl r ⟨ua,uc,us.map Prod.fst⟩ 285;have i:j.ownBlock=lv.ownBlock∨∃g,j.ownBlock=O g/\M (H y)<=g:=D.imp id (λe=>⟨_,e,X⟩);have u:∀b,b<M (H y)->lv.ownBlock≠O b->j.ownBlock≠O b:=λb hl L e=>Qb;rw[show (⟨ua,uc,us.map Prod.fst⟩:oL).val=Z (O ua) (N us) uc by unfold oL.val;rw[ZX]]at A;refine⟨j,z,A,⟨B,by rw[adA,h.aac,Q7],λx d=>?_,λx d=>?_,?_⟩,f.aj r (λb hb e=>Qj ((t b e).1)),C⟩
 .rcases Z5.1 d with d|d
  .obtain⟨k,l,n⟩:=h.each x d;have v:=ZO l hb.size;exact⟨(k.aj hb).eG f (λ_ a e=>Qb),ZO v f.size,u _ v n⟩
  .rw[XH]at d;rw[d];have p:lv.ownBlock≠O ua.block:=λe=>Qj (t _ e)
   exact⟨K9.eG f (λ_ a e=>Qb),ZO hun.2 f.size,u _ hun.2 p⟩
 .rcases Z5.1 d with d|d
  .obtain⟨k,l,n⟩:=h.iE x d;exact⟨(k.aj hb).Ej f i,l,ZO n (ZU hb.size f.size)⟩
  .obtain⟨k,l,n⟩:=hu.iE x d;exact⟨k.afn.Ej f i,ZU hw l,ZO n f.size⟩
 .rw[Q7,List.pairwise_append];refine⟨h.Hu,hu.Hu,λx d y K=>?_⟩;obtain⟨z,hz,rfl⟩:=Xc.1 d;obtain⟨G,q,rfl⟩:=Xc.1 K;exact ZO (h.iE z hz).2.2 (hu.iE G q).2.1
theorem ahK(Eq:vS f ts q W0)(hz:Fz Fq W0 w){ga:Nat}{Aa:Nat->Nat}{oa:JK aA}{a:JK aK}(hA:dJ 144 206 Fq w ga Aa oa a)(xz:N a<=20)(gca:Nat)(hao:∀p∈a,∀x,p.2=O x->oK q x.2){Ab:Nat->Nat}{ob:JK aA}{b:JK aK}(hB:dJ 144 206 Fq w gb Ab ob b)(YU:N b<=20)(gcb:Nat)(hbo:∀p∈b,∀x,p.2=O x->oK q x.2)(hs:(df b).isSome=T) :
  Calls V 190 #[Qt (f.cells ts q),Z (O (aD ga 0)) (N a) gca,Z (O (aD gb 0)) (N b) gcb] w (oC 144 136 Fq w (jo ts q (bE ts q) a b)):=by
 obtain⟨v0,v1,v2,v3,v4,v5,v6,v7,v8,v9,fO,fP,fQ,iq,-⟩:=Jh f ts q;obtain⟨w1,dB,bL,ai⟩:=bI w #[v0,v1,v2,v3,v4,v5,v6,v7,v8,v9,fO,fP,fQ] 118;have r:=Ni (hA.aj bL) xz gca;obtain⟨d,l⟩:=eY (fB a);rw[<-l]at r;have AY:N d<=20:=by rw[l];have:=Bj a (N a);rw[Z0]at this;omega
 obtain⟨Q,m⟩:=eY (λt=>jJ ts q (bE ts q) t b:bF->JK bF);obtain⟨S,B⟩:=eY (λk=>(d.take k).flatMap λx=>Q x.2:Nat->JK bF);have aB:Qm (∀t,0<N (Q t)/\N (Q t)<=17):=λt=>by rw[m];exact Kk ts q _ t b (by rw[XN];exact Eq.ko)
 have W:Qm (S 0=[]/\S (N d)=jo ts q (bE ts q) a b):=by show _/\_;rw[B,m];exact⟨rfl,by simp only[Z0];rw[l];rfl⟩
 have aC:Qm (∀k,k<N d->S (k+1)=S k++Q (E d k (0,uT)).2/\bM 144 Fq w (E (d.map λx=>Aa x.1) k 0) (E d k (0,uT)).2/\oK q (E d k (0,uT)).2):=λk hk=>by
  refine⟨?_,?_⟩
  .rw[B]
   show (d.take (k+1)).flatMap _=_;rw[Jt d (0,uT) hk,ZW];simp
  .rw[show E (d.map λx=>Aa x.1) k 0=Aa (E d k (0,uT)).1 by grind];have hm:E d k (0,uT)∈fB a:=by rw[<-l];grind
   rcases oz a [] _ hm with h0|⟨p,hp,e⟩
   .cases h0
   .exact⟨hA.iE p hp _ e,hao p hp _ e⟩
 have aF:Qm (∀(y x:U) (ap:Nat) (t:bF),Bw w y->Bw y x->bM 144 Fq w ap t->oK q t->Calls V 224 #[Qt #[v0,v1,v2,v3,v4,v5,v6,v7,v8,v9,fO,fP,fQ],Y (O (aD ap 0)),Z (O (aD gb 0)) (N b) gcb] x (oC 144 136 (Fnw Fq (M (H y)) (M (H x))) x (Q t))):=λy x ap t hy hx ht ho=>by rw[<-iq,m];have up:∀b,b<M (H w)->Fq b->Fnw Fq (M (H y)) (M (H x)) b:=λb hb hF=>.inl ⟨hF,ZO hb hy.size⟩;exact adz Eq (Fz.cut (hz.next hy) hx) ap t ((ht.mono up).aj (aO hy hx)) ho ((hB.mono up).aj (aO hy hx)) YU gcb hbo hs
 have v:Qm (N (d.map λx=>Aa x.1)=N d):=ZX _;obtain⟨aM,CE⟩:=bH bL ai;have V7:Qm (∀b,M (H w)<=b->Fq b):=hz.high;rw[iq];clear iq Eq hz hA hB hao hbo hs l B m bL ai;generalize jo ts q (bE ts q) a b=R,(d.map λx=>Aa x.1)=xs at*;go_enter func190,ntmps190;go_wp2_with fail;refine r.mono ?_;rintro e w2 ⟨vp,rfl,ak,C⟩;obtain⟨xa,xc,rfl,au,-⟩:=vF ak (by rw[v.o];omega);rw[v.o];obtain⟨aN,aP,n⟩:=lX au (CE.o.up C) (aO aM.o C);clear r ak au C dB;go_wp2;go_loopw [7,13] (λlv xv wr=>∃(k:Nat) (ls:JK oL) (bs:JK (Nat × bF)),k<=N d/\xv=I J (k:Int)/\Qm (bs.map Prod.snd=S k/\N ls=k/\N bs<=17*k)/\Qm (Br 144 142 Fq (M (H w2)) wr lv ls bs)/\Qm (Bw w2 wr)) (λ_ xv _=>N d-(intOf xv).toNat)
 case atStart=>exact⟨0,[],[],ZR _,rfl,⟨W.o.1.symm,rfl,Qa⟩,Br.nil _ _ _ _ _,Za _ _⟩
 case round=>
  obtain⟨k,ls,bs,hk,rfl,HK,D,G⟩:=hrel;obtain⟨la,lc,rfl,j⟩:=D.o.lists;have Uy:=Zh j;by_cases aT:k<N d
  .have z:k<N xs:=by rw[v.o];exact aT
   obtain⟨kb,Y9,rfl,FJ⟩:=gy.get (aN.o.aj G.o) z;have aS:=FJ k z;obtain⟨hn,ht,ho⟩:=aC.o k aT;have aa:=aF.o w2 wr _ _ n.o G.o ht ho;obtain⟨aQ,HN⟩:=bH (aB.o (E d k (0,uT)).2) hn;generalize Q (E d k (0,uT)).2=JX,E xs k 0=ap at*;have hf:=aP.o.up G.o;obtain⟨a0,a1,a2,a3,a4,a5,a6,a7,a8,a9,wU,yD,yE⟩:=hf.vV;clear FJ hf j hn ht ho z;go_wp2_with fail;refine aa.mono ?_;rintro e w3 ⟨u,us,rfl,K,gH,L⟩;have aG:N us=N JX:=by rw[<-K,ZX]
   have aH:=aQ.o;have ag:=gH.len;have hK:=HK.o;obtain⟨uo,uc,rfl,K9,-,-,av⟩:=vF (xs:=us.map Prod.fst) gH.own X;obtain⟨ub,aR,rfl,ax⟩:=gy.get K9 (i:=0) X;rw[ag]at gH ⊢;have A:∀g,(Value.slice la (N ls) lc).ownBlock=O g->M (H w2)<=g/\g<M (H wr):=λg e=>Xy D.o.own e;obtain⟨v5,y5,sF,ay,az,za,zm,zc,rfl⟩:=ahJ D.o L G.o.size X (gH.mono λb hb hF=>by
    rcases hF with⟨h1,h2⟩|h1
    .exact⟨h1,λe=>Qj (A b e)⟩
    .exact⟨V7.o b (Qk n.o.size G.o.size),λe=>Qj (A b e)⟩) K9 ⟨av _ rfl,kX (ax 0 X)⟩
   have aI:=Zh ay;have aJ:Qm ((bs++us).map Prod.snd=S (k+1)/\N (ls++[(⟨(aD ub aR),uc,us.map Prod.fst⟩:oL)])=k+1/\N (bs++us)<=17*(k+1)):=⟨by rw[Q7,hK.1,K,HN.o],Qi,by rw[Zt];omega⟩;have aL:Qm (Bw w2 y5):=(aO G.o L).trans az;clear aa K gH L aG aH ag hK K9 av ax A ay az;go_wp2_with (first|(at_builtin;refine XJ rfl (.tmp 17) (.tmp 22) 285 rfl (Z la (N ls) lc) (Z (O (aD (M (H w3)) 0)) 1 1) (Z za zm zc) y5 rfl rfl sF ?_));refine gQ ?_;exact⟨k+1,_,_,X,Qe,aJ.o,aI.o,aL.o⟩
  .obtain rfl:k=N d:=X
   have hK:=HK.o;have MI:=aab la lc ls wr Uy.o X (by rw[D.o.aac,ZX];omega);have HE:=Zh (hK.1.trans W.o.2);clear hK j;go_wp2_with fail;refine MI.mono ?_;rintro e w4 ⟨vr,rfl,wG,P⟩;have ah:=aO n.o G.o;rw[D.o.aac,ZX]at wG;have HF:Qm (oC 144 136 Fq w R (Qu vr) w4):=⟨vr,bs,rfl,HE.o,⟨Je wG ah.size,λx hx=>by
    obtain⟨h1,h2,h3⟩:=D.o.iE x hx;exact⟨h1.afn.own P (λg e=>(Xy wG e).1),ZU n.o.size h2,ZO h3 P.size⟩,D.o.Hu⟩,aO ah P⟩
   obtain⟨aU,rm,rc,rfl⟩:=Xz wG;go_wp2;go_ret;exact HF.o
structure yB where
 gs:Nat
 adE:Nat
 gb:Nat->Nat
 Wh:Nat->Nat
 A:Nat->Nat->Nat
 os:Nat->JK aA
 av:Ql
 bP:Nat
 pv:Ql
def dJ.tp(h:dJ Tq Tp Fq w gb A os g):∃c,GB w gb Tp c:=by obtain⟨c,a,_⟩:=h.blk;exact⟨c,a⟩
theorem GB.tp{G:Nat}{t':TypeId}{c c':Array Ql}(h:GB w G t c)(h':GB w G t' c'):t=t':=by have a:w.heap[G]? = O (Qs c t (0,0)):=h;have b:w.heap[G]? = O (Qs c' t' (0,0)):=h';grind
def rY(L:yB)(σ:fE):Array Value:=#[Z (O (aD L.gs 0)) (N σ.az) L.adE,L.av,Qq σ.cut,Y (O (aD L.bP 0)),L.pv,I J σ.status]
structure gW(W0:U)(f:bC)(ts:JK af)(q:ae)(Xq Mq:Pm)(w:U)(sb:Nat)(L:yB)(σ:fE):Prop where
 hz:Fz (λb=>¬Xq b) W0 w
 sub:∀b,Mq b->Xq b
 msb:Mq sb
 blk:GB w sb 138 (f.cells ts q++rY L σ)
 gsx:¬Xq L.gs
 gsl:L.gs<M (H w)
 Bt:∀k,k<N σ.az->Qo w (aD L.gs k)=O (Z (O (aD (L.gb k) 0)) (N (E σ.az k [])) (L.Wh k))
 nN:∀k,k<N σ.az->dJ 144 206 (λb=>¬Xq b) w (L.gb k) (L.A k) (L.os k) (E σ.az k [])/\Mq (L.gb k)/\N (E σ.az k [])<=L.Wh k/\L.Wh k<=9223372036854775807
 apart:∀j k,j<N σ.az->k<N σ.az->L.gb j=L.gb k->j=k
 ag:w.ownsRow (M (H W0)) 165 2 L.av (N σ.aL) (σ.aL.flatMap iA)
 agm:∀b,L.av.ownBlock=O b->Mq b
 bP:bM 144 (λb=>¬Xq b) w L.bP σ.bP
 pk:w.ownsRow (M (H W0)) 3 1 L.pv (N σ.picks) (σ.picks.map (Value.int J))
 pkm:∀b,L.pv.ownBlock=O b->Mq b
def mi(W0:U)(f:bC)(ts:JK af)(q:ae)(Xq Mq:Pm)(w:U)(sb:Nat)(L':yB)(σ':fE)(w':U):Prop:=
 ∃X' M',gW W0 f ts q X' M' w' sb L' σ'/\aB (λb=>¬Mq b) w w'/\(∀b,Mq b->M' b)/\(∀b,M' b->Mq b∨M (H w)<=b)/\(∀b,X' b↔Xq b∨M' b)
def dW(W0:U)(f:bC)(ts:JK af)(q:ae)(Xq Mq:Pm)(w:U)(sb:Nat)(σ':fE)(w':U):Prop:=∃L',mi W0 f ts q Xq Mq w sb L' σ' w'
def gW.lt{L:yB}(h:gW W0 f ts q Xq Mq w sb L σ){b:Nat}(hb:Xq b):¬UH W0 b/\b<M (H w):=by refine⟨λa=>h.hz.low b a hb,Nat.lt_of_not_le λa=>h.hz.high b a hb⟩
def gW.ne{L:yB}(h:gW W0 f ts q Xq Mq w sb L σ):L.av.ownBlock≠O sb/\L.pv.ownBlock≠O sb/\(∀b,L.av.ownBlock=O b->L.pv.ownBlock≠O b)/\∀k,k<N σ.az->L.gb k≠sb/\L.av.ownBlock≠O (L.gb k)/\L.pv.ownBlock≠O (L.gb k):=by
 refine⟨JF h.ag h.blk Qc,JF h.pk h.blk Qc,λb e=>?_,λk g=>?_⟩
 .obtain⟨d,a⟩:=Jp h.ag e;exact JF h.pk (show GB w b _ d from a) Qc
 .obtain⟨c,a⟩:=(h.nN k g).1.tp;exact⟨λe=>by have:=GB.tp a (e ▸ h.blk);exact absurd this Qc,JF h.ag a Qc,JF h.pk a Qc⟩
theorem gW.next{L:yB}(h:gW W0 f ts q Xq Mq w sb L σ)(hk:aB (λb=>b≠sb/\L.av.ownBlock≠O b/\L.pv.ownBlock≠O b) w w'){pk:IC}{st:Int}
  (ve:GB w' sb 138 (f.cells ts q++rY { L with av:=av,pv:=pv } { σ with aL:=ag,picks:=pk,status:=st }))
  (hag:w'.ownsRow (M (H W0)) 165 2 av (N ag) (ag.flatMap iA)) (hav:av.ownBlock=L.av.ownBlock∨∃g,av.ownBlock=O g/\M (H w)<=g)
  (hpk:w'.ownsRow (M (H W0)) 3 1 pv (N pk) (pk.map (Value.int J))) (hpv:pv.ownBlock=L.pv.ownBlock∨∃g,pv.ownBlock=O g/\M (H w)<=g) :
  mi W0 f ts q Xq Mq w sb { L with av:=av,pv:=pv } { σ with aL:=ag,picks:=pk,status:=st } w':=by
 have u:∀b,b<M (H w)->¬Xq b->av.ownBlock≠O b/\pv.ownBlock≠O b:=λb A r=>by
  refine⟨λe=>?_,λe=>?_⟩
  .rcases hav with j|⟨g,j,p⟩
   .exact r (h.sub _ (h.agm b (j ▸ e)))
   grind
  .rcases hpv with j|⟨g,j,p⟩
   .exact r (h.sub _ (h.pkm b (j ▸ e)))
   grind
 have i:∀b,b<M (H w)->¬Xq b->¬(Xq b∨av.ownBlock=O b∨pv.ownBlock=O b):=λb A r d=>by grind
 have n:aB (λb=>¬(Xq b∨av.ownBlock=O b∨pv.ownBlock=O b)) w w':=hk.mono λb _ a=>⟨λe=>a (.inl (e ▸ h.sub _ h.msb)),λe=>a (.inl (h.sub _ (h.agm b e))),λe=>a (.inl (h.sub _ (h.pkm b e)))⟩;have m:∀b,(av.ownBlock=O b∨pv.ownBlock=O b)->Mq b∨M (H w)<=b:=λb e=>by
  rcases e with e|e
  .rcases hav with j|⟨g,j,p⟩
   .exact .inl (h.agm b (j ▸ e))
   grind
  .rcases hpv with j|⟨g,j,p⟩
   .exact .inl (h.pkm b (j ▸ e))
   grind
 have t:∀b,(av.ownBlock=O b∨pv.ownBlock=O b)->M (H W0)<=b/\b<M (H w'):=λb e=>by
  rcases e with e|e
  .exact Xy hag e
  .exact Xy hpk e
 have v:=h.ne;refine⟨λb=>Xq b∨av.ownBlock=O b∨pv.ownBlock=O b,λb=>Mq b∨av.ownBlock=O b∨pv.ownBlock=O b,⟨⟨?_,λb a d=>?_,λb a d=>?_⟩,λb a=>?_,.inl h.msb,ve,i _ h.gsl h.gsx,ZO h.gsl hk.size,λk l=>?_,λk l=>?_,h.apart,hag,λb e=>.inr (.inl e),(h.bP.mono i).eG n,hpk,λb e=>.inr (.inr e)⟩,?_,λb a=>.inl a,λb a=>?_,λb=>?_⟩
 .exact h.hz.aj.fu hk λb a=>⟨λe=>(h.lt (h.sub _ h.msb)).1 (e ▸ a),λe=>(h.lt (h.sub _ (h.agm b e))).1 a,λe=>(h.lt (h.sub _ (h.pkm b e))).1 a⟩
 .rcases d with d|d
  .exact h.hz.low b a d
  .have:=(t b d).1;have:=a.lt;omega
 .rcases d with d|d
  .exact h.hz.high b (ZU hk.size a) d
  .have:=(t b d).2;omega
 .rcases a with a|a
  .exact .inl (h.sub b a)
  .exact .inr a
 .refine JE hk (h.Bt k l) ⟨λe=>h.gsx (e ▸ h.sub _ h.msb),λe=>h.gsx (h.sub _ (h.agm _ e)),λe=>h.gsx (h.sub _ (h.pkm _ e))⟩
 .obtain⟨j,y,z⟩:=h.nN k l;refine⟨(j.mono i).eG (hk.mono λb _ a=>?_),.inl y,z⟩;rcases a with a|a
  .exact⟨λe=>a (.inl (e ▸ h.sub _ h.msb)),λe=>a (.inl (h.sub _ (h.agm b e))),λe=>a (.inl (h.sub _ (h.pkm b e)))⟩
  .rw[a];exact v.2.2.2 k l
 .exact hk.mono λb _ a=>⟨λe=>a (e ▸ h.msb),λe=>a (h.agm b e),λe=>a (h.pkm b e)⟩
 .grind
 .exact⟨λd=>by
   rcases d with d|d
   .exact .inl d
   .exact .inr (.inr d),λd=>by
   rcases d with d|d|d
   .exact .inl d
   .exact .inl (h.sub b d)
   .exact .inr d⟩
theorem mi.trans{L2:yB}{σ2:fE}{X1 M1:Pm}(hk:aB (λb=>¬Mq b) w w1)(h1:∀b,Mq b->M1 b)(h2:∀b,M1 b->Mq b∨M (H w)<=b)(h3:∀b,X1 b↔Xq b∨M1 b)(h:mi W0 f ts q X1 M1 w1 sb L2 σ2 w2):mi W0 f ts q Xq Mq w sb L2 σ2 w2:=by
 obtain⟨e,g,i,j,g1,k,l⟩:=h;refine⟨e,g,i,hk.dL j (λb m d a=>?_),λb d=>g1 b (h1 b d),λb d=>?_,λb=>?_⟩
 .grind
 .rcases k b d with a|a
  .exact h2 b a
  .exact .inr (ZU hk.size a)
 grind
def gW.post{L:yB}(h:gW W0 f ts q Xq Mq w' sb L σ)(hk:aB (λb=>¬Mq b) w w'):mi W0 f ts q Xq Mq w sb L σ w':=
 ⟨Xq,Mq,h,hk,λ_ h=>h,λ_ h=>.inl h,λb=>⟨λa=>.inl a,λa=>by
  rcases a with a|a
  .exact a
  .exact h.sub b a⟩⟩
def dW.trans{W0:U}{f:bC}{ts:JK af}{q:ae}{Xq Mq:Pm}{w w1 w2:U}{sb:Nat}{σ2:fE}{X1 M1:Pm}(hk:aB (λb=>¬Mq b) w w1)(h1:∀b,Mq b->M1 b)(h2:∀b,M1 b->Mq b∨M (H w)<=b)(h3:∀b,X1 b↔Xq b∨M1 b)(h:dW W0 f ts q X1 M1 w1 sb σ2 w2):dW W0 f ts q Xq Mq w sb σ2 w2:=h.imp λ_ h=>mi.trans hk h1 h2 h3 h
theorem gW.aj{W0:U}{f:bC}{ts:JK af}{q:ae}{Xq Mq:Pm}{w w':U}{sb:Nat}{L:yB}{σ:fE}(h:gW W0 f ts q Xq Mq w sb L σ)(hb:Bw w w'):gW W0 f ts q Xq Mq w' sb L σ where
 hz:=h.hz.next hb
 sub:=h.sub
 msb:=h.msb
 blk:=h.blk.up hb
 gsx:=h.gsx
 gsl:=ZO h.gsl hb.size
 Bt:=λk a=>cB hb (h.Bt k a)
 nN:=λk a=>⟨(h.nN k a).1.aj hb,(h.nN k a).2⟩
 apart:=h.apart
 ag:=Ja h.ag hb
 agm:=h.agm
 bP:=h.bP.aj hb
 pk:=Ja h.pk hb
 pkm:=h.pkm
theorem gW.Af{Nq N' X':Pm}{L:yB}(h:gW W0 f ts q Xq Mq w sb L σ)(hN:∀b,Nq b->Xq b)(hd:∀b,Mq b->¬Nq b)(hk:aB (λb=>¬Nq b) w w')(hf:∀b,N' b->Nq b∨M (H w)<=b)(hX:∀b,X' b↔Xq b∨N' b)(hl:∀b,N' b->b<M (H w'))(h0:∀b,N' b->M (H W0)<=b):gW W0 f ts q X' Mq w' sb L σ:=by
 have a:∀b,b<M (H w)->¬Xq b->¬X' b:=λb t i d=>by grind
 have m:aB (λb=>¬X' b) w w':=hk.mono λb _ i l=>i ((hX b).2 (.inl (hN b l)));refine⟨⟨h.hz.aj.fu hk λb i l=>h.hz.low b i (hN b l),λb i d=>?_,λb i d=>?_⟩,λb i=>(hX b).2 (.inl (h.sub b i)),h.msb,h.blk.bT hk (hd _ h.msb),a _ h.gsl h.gsx,ZO h.gsl hk.size,λk j=>JE hk (h.Bt k j) (λl=>h.gsx (hN _ l)),λk j=>?_,h.apart,Xw h.ag hk (λg e=>hd g (h.agm g e)),h.agm,(h.bP.mono a).eG m,Xw h.pk hk (λg e=>hd g (h.pkm g e)),h.pkm⟩
 .rcases (hX b).1 d with d|d
  .exact h.hz.low b i d
  .have:=h0 b d;have:=i.lt;omega
 .rcases (hX b).1 d with d|d
  .exact h.hz.high b (ZU hk.size i) d
  .have:=hl b d;omega
 .obtain⟨n,p,r⟩:=h.nN k j;refine⟨(n.mono a).eG (hk.mono λb _ i l=>?_),p,r⟩
  grind
theorem gW.aF{L:yB}(h:gW W0 f ts q Xq Mq w sb L σ)(hs:s<N σ.az)(hk:aB (λb=>b≠L.gb s) w w'){A':Nat->Nat}{g':JK aK}(hg:dJ 144 206 (λb=>¬Xq b) w' (L.gb s) A' (L.os s) g')(hl:N g'=N (E σ.az s [])) :
  gW W0 f ts q Xq Mq w' sb { L with A:=λk=>if k=s then A' else L.A k } { σ with az:=σ.az.set s g' }:=by
 have n:=h.ne;have l:=h.sub _ (h.nN s hs).2.1;have p:∀k,N (E (σ.az.set s g') k [])=N (E σ.az k []):=λk=>by grind
 have a:N (σ.az.set s g')=N σ.az:=JB ..;refine⟨⟨h.hz.aj.fu hk λb d e=>(h.lt l).1 (e ▸ d),h.hz.low,λb d=>h.hz.high b (ZU hk.size d)⟩,h.sub,h.msb,?_,h.gsx,ZO h.gsl hk.size,λk i=>?_,λk i=>?_,λj k y i e=>?_,Xw h.ag hk (λg e hg=>(n.2.2.2 s hs).2.1 (hg ▸ e)),h.agm,h.bP.eG (hk.mono λb _ d e=>d (e ▸ l)),Xw h.pk hk (λg e hg=>(n.2.2.2 s hs).2.2 (hg ▸ e)),h.pkm⟩
 .have:=h.blk.bT hk (λe=>(n.2.2.2 s hs).1 e.symm);have e:rY { L with A:=λk=>if k=s then A' else L.A k } { σ with az:=σ.az.set s g' } = rY L σ:=by unfold rY;simp only;rw[a]
  rw[e];exact this
 .show w'.cell? _=O (Z _ (N (E (σ.az.set s g') k [])) _)
  rw[p k];exact JE hk (h.Bt k (by rw[<-a];exact i)) (λe=>h.gsx (e ▸ l))
 .have m:k<N σ.az:=by rw[<-a];exact i
  obtain⟨t,u,v⟩:=h.nN k m;show dJ _ _ _ _ (L.gb k) (if k=s then A' else L.A k) (L.os k) (E (σ.az.set s g') k [])/\Mq (L.gb k)/\N (E (σ.az.set s g') k [])<=L.Wh k/\L.Wh k<=9223372036854775807;rw[p k];refine⟨?_,u,v⟩;by_cases e:k=s
  .grind
  .rw[Zk e,oD,Zk (λz=>e z.1.symm)];refine t.eG (hk.mono λb _ d r=>?_);rcases d with d|d
   .exact d (r ▸ l)
   .exact e (h.apart k s m hs (d.symm.trans r))
 .exact h.apart j k (by rw[<-a];exact y) (by rw[<-a];exact i) e
theorem gW.atS{L:yB}(h:gW W0 f ts q Xq Mq w sb L σ)(hk:aB (λb=>b≠sb) w w'){b':Nat}{t:bF}(ve:GB w' sb 138 (f.cells ts q++rY { L with bP:=b' } { σ with bP:=t }))(ht:bM 144 (λb=>¬Xq b) w' b' t) :
  gW W0 f ts q Xq Mq w' sb { L with bP:=b' } { σ with bP:=t }:=by have l:=h.ne;have d:=h.sub _ h.msb;refine⟨⟨h.hz.aj.fu hk λb i e=>(h.lt d).1 (e ▸ i),h.hz.low,λb i=>h.hz.high b (ZU hk.size i)⟩,h.sub,h.msb,ve,h.gsx,ZO h.gsl hk.size,λk a=>JE hk (h.Bt k a) (λe=>h.gsx (e ▸ d)),λk a=>⟨(h.nN k a).1.eG (hk.mono λb _ i e=>?_),(h.nN k a).2⟩,h.apart,Xw h.ag hk (λg e j=>l.1 (j ▸ e)),h.agm,ht,Xw h.pk hk (λg e j=>l.2.1 (j ▸ e)),h.pkm⟩;grind
def aae(rk:Nat->Int)(s:Nat)(gs:JK (JK aK))(a:JK bB)(k:Nat):(List.range (k+1)).foldl (fU rk s gs) a=fU rk s gs ((List.range k).foldl (fU rk s gs) a) k:=by rw[ZG,XU];rfl
theorem sM.ig{gs:JK (JK aK)}{t:bB}(h:sM n gs t)(hn:n<=5)(hg:N gs<=31):t.1<32/\t.2<32:=by
 rcases h with⟨h0,i,hi,e⟩|⟨_,h1,h2,_⟩
 .rw[h0,e];have:i=0∨i=1∨i=2∨i=3∨i=4:=X
  grind
 .omega
def adF:(df g).isSome=(E g 0 sJ).2.isSome:=by
 match g with
 |[]=>rfl
 |(_,Qr)::_=>rfl
 |(_,O _)::_=>rfl
def arU(f:bC)(ts:JK af)(q:ae)(L:yB)(σ:fE):(f.cells ts q++rY L σ)[14]? = O L.av:=by obtain⟨v0,b,v2,v3,v4,v5,d,e,g,v9,i,j,k,a,-⟩:=Jh f ts q;rw[a];rfl
def aaf(f:bC)(ts:JK af)(q:ae)(L:yB)(σ:fE)(av:Ql):(f.cells ts q++rY L σ).setIfInBounds 14 av=f.cells ts q++rY { L with av:=av } σ:=by obtain⟨v0,b,v2,v3,v4,v5,d,e,g,v9,i,j,k,a,-⟩:=Jh f ts q;rw[a];rfl
theorem adG{L:yB}(h:gW W0 f ts q Xq Mq w sb L σ)(s:Nat)(hs:s<32)(F6:N σ.az<=31)(hg0:∀k,k<N σ.az->0<N (E σ.az k []))(ha:∀t∈σ.aL,t.1<32/\t.2<32)(xz:N σ.aL<=900000) :
  Calls V 221 #[Y (O (aD sb 0)),I Qp (s:Int)] w λe K=>(∃v,e=Qu v)/\dW W0 f ts q Xq Mq w sb { σ with aL:=ng gK s σ.az σ.aL } K:=by
 obtain⟨v0,v1,v2,v3,v4,v5,v6,v7,v8,v9,fO,fP,fQ,iq,-⟩:=Jh f ts q;obtain⟨m,B⟩:=eY (λk=>(List.range k).foldl (fU gK s σ.az) σ.aL:Nat->JK bB);have ah:Qm (∀k,m (k+1)=fU gK s σ.az (m k) k):=λk=>by rw[B];exact aae _ _ _ _ _
 have HE:=Zh (by  rw[B];rfl:m (N σ.az)=ng gK s σ.az σ.aL)
 have Ae:Qm (∀k,k<=N σ.az->(∀t∈m k,t.1<32/\t.2<32)/\N (m k)<=901000):=λk hk=>by
  rw[B];refine⟨λt ht=>?_,?_⟩
  .rcases Et _ _ _ ht with h1|⟨j,hj,_,_,h1⟩
   .exact ha t h1
   grind
  .refine ZU (Eu _ _ _ _ _) ?_;rw[ZY];omega
 have ai:Qm (mi W0 f ts q Xq Mq w sb { L with av:=L.av } { σ with aL:=m 0 } w):=by rw[B];exact h.post (Xj _ _)
 have LY:Qo w (aD sb 13)=O (Z (O (aD L.gs 0)) (N σ.az) L.adE):=by have:=h.blk.cell 13;rw[iq]at this;exact this
 have Q:=Zh hg0;have ak:Qm (∀(k:Nat) (x:U),k<32->Ce 253 #[I Qp (k:Int),I Qp (s:Int)] x (Qq (decide (k &&& s≠0)))):=λk x hk=>agJ k s X X x;have HS:=Zh hs;have au:=F6;obtain⟨gl,S⟩:=eY (N σ.az);rw[<-S]at F6 au HE Ae LY Q;have ax:=Zh S;go_enter func221,ntmps221;go_wp2;go_loopw [12] (λiv wr=>∃(k:Nat) (av:Ql),k<=gl/\iv=I J (k:Int)/\Qm (mi W0 f ts q Xq Mq w sb { L with av:=av } { σ with aL:=m k } wr)) (λiv _=>gl-(intOf iv).toNat)
 case atStart=>exact⟨0,L.av,ZR _,rfl,ai.o⟩
 case round=>
  obtain⟨k,av,hk,rfl,HP⟩:=hrel;by_cases aT:k<gl
  .obtain⟨X1,M1,G,dP,aG,aH,aI⟩:=HP.o;have r:k<N σ.az:=by rw[<-ax.o];exact aT
   have aO:Qo wr (aD L.gs k)=O (Z (O (aD (L.gb k) 0)) (N (E σ.az k [])) (L.Wh k)):=G.Bt k r;obtain⟨aJ,-⟩:=G.nN k r;have l:=zi aJ (Q.o k aT) (L.Wh k);change Calls V 252 #[Z (O (aD (L.gb k) 0)) (N (E σ.az k [])) (L.Wh k)] wr (λe K=>e=Qu (YC (L.A k) (E (E σ.az k []) 0 sJ).2)/\K = wr) at l;have p:=ah.o k;unfold fU at p;rw[adF]at p;have n:=Zh G;have We:Qm (aB (λb=>¬Mq b) w wr/\(∀b,Mq b->M1 b)/\(∀b,M1 b->Mq b∨M (H w)<=b)/\(∀b,X1 b↔Xq b∨M1 b)):=⟨dP,aG,aH,aI⟩;have u:=ak.o k wr X;have aP:IntKind.u64.wrap (k:Int)=(k:Int):=by rw[XZ];omega
   generalize N (E σ.az k [])=ggl,L.Wh k=ggc,L.gb k=ggb at*
   cases hy:(E (E σ.az k []) 0 sJ).2 with
   |none =>
    rw[hy]at l p;have Nt:Qm (m (k+1)=m k):=p;change Calls _ _ _ wr (λe K=>e=Qu (Y Qr)/\K = wr) at l;go_wp2_with fail;refine mR l λwz d=>?_;have z:=d.symm;subst z;go_wp2;go_roundw
    case rel=>grind
    case measure=>exact XK
   |some y =>
    rw[hy]at l p;change Calls _ _ _ wr (λe K=>e=Qu (Y (O (aD (L.A k y.1) 0)))/\K = wr) at l;generalize L.A k y.1=yp at*;by_cases aa:k &&& s=0
    .have Nt:Qm (m (k+1)=[(s,k),(k,s)].foldl (jH gK) (m k)):=by grind
     rw[ZK (by simpa using aa)]at u;obtain⟨w1,dB,bL,sK⟩:=bI wr #[I Qp (s:Int),I Qp (k:Int),I Qp (k:Int),I Qp (s:Int)] 165;have C:=n.o.aj bL;have R:=Ae.o k hk;have ay:=Y7 sb (M (H W0)) _ av (m k) [(s,k),(k,s)] (O (aD (M (H wr)) 0)) 2 w1 C.blk (arU f ts q _ _) C.ag C.hz.aj.size ⟨Qa,λi hi=>⟨M (H wr),0,rfl,by
      rw[ZT];have aA:i<2:=hi
      match i,aA with
      |0,_=>exact⟨sK.cell 0,sK.cell 1⟩
      |1,_=>exact⟨sK.cell 2,sK.cell 3⟩⟩⟩ (λa e=>by
       injection e with e;rw[<-e];exact show M (H wr)≠sb/\av.ownBlock≠O (M (H wr)) from ⟨λP=>Qj n.o.blk.lt,λP=>Qj ((Xy n.o.ag P).2)⟩) (by have:=R.2;simp;omega) R.1 (λt ht=>by
       have aC:=HS.o;rcases ZB.1 ht with rfl|ht
       .exact⟨aC,by show k<32;omega⟩
       grind)
     have D:=Zh bL;go_wp2_with fail;refine mR l λwz d=>?_;have z:=d.symm;subst z;go_wp2_with fail;refine mR u λwz d=>?_;have z:=d.symm;subst z;go_wp2_with fail;refine ay.mono ?_;rintro e w2 ⟨⟨rv,rfl⟩,W,aK,aM,jf,aN⟩;have HF:Qm (mi W0 f ts q Xq Mq w sb { L with av:=W } { σ with aL:=m (k+1) } w2):=by
      rw[Nt.o];have aF:aB (λb=>b≠sb/\av.ownBlock≠O b/\L.pv.ownBlock≠O b) wr w2:=(Xl D.o).trans (jf.mono (λb _ h=>⟨h.1,h.2.1⟩));refine mi.trans We.o.1 We.o.2.1 We.o.2.2.1 We.o.2.2.2 (n.o.next aF (av:=W) (pv:=L.pv) (ag:=[(s,k),(k,s)].foldl (jH gK) (m k)) (pk:=σ.picks) (st:=σ.status) ?_ aM ?_ ?_ (.inl rfl))
      .have:=aK;rw[aaf]at this;exact this
      .rcases aN with h|⟨g,h,hg⟩
       .exact .inl h
       .exact .inr ⟨g,h,ZU D.o.size hg⟩
      .refine Xw n.o.pk ((Xl D.o).trans jf) (λg e=>?_);have fG:=n.o.ne;exact⟨λP=>fG.2.1 (P ▸ e),λP=>fG.2.2.1 g P e⟩
     go_wp2;go_roundw
     case rel=>grind
     case measure=>exact XK
    .have Nt:Qm (m (k+1)=m k):=by grind
     rw[Zl (by simpa using aa)]at u;go_wp2_with fail;refine mR l λwz d=>?_;have z:=d.symm;subst z;go_wp2_with fail;refine mR u λwz d=>?_;have z:=d.symm;subst z;go_wp2;go_roundw
     case rel=>grind
     case measure=>exact XK
  .have r:gl=k:=X
   have HF:Qm (dW W0 f ts q Xq Mq w sb { σ with aL:=ng gK s σ.az σ.aL } wr):=by refine⟨{ L with av:=av },?_⟩;have:=HP.o;rw[<-r,HE.o]at this;exact this
   go_wp2;go_end0;exact⟨⟨_,rfl⟩,HF.o⟩
def adH(ts:JK af)(q:ae)(b:bF)(l:JK bF)(hk:k<N l):(l.take (k+1)).foldl (lK ts q) b=lK ts q ((l.take k).foldl (lK ts q) b) (E l k uT):=lV _ b l uT hk
theorem gW.cells{L:yB}(h:gW W0 f ts q Xq Mq w sb L σ)(iq:f.cells ts q=#[v0,v1,v2,v3,v4,v5,v6,v7,v8,v9,fO,fP,fQ]):GB w sb 138 #[v0,v1,v2,v3,v4,v5,v6,v7,v8,v9,fO,fP,fQ,Z (O (aD L.gs 0)) (N σ.az) L.adE,L.av,Qq σ.cut,Y (O (aD L.bP 0)),L.pv,I J σ.status]:=by have:=h.blk;rw[iq]at this;exact this
theorem ahM(Eq:vS f ts q W0){L:yB}(h:gW W0 f ts q Xq Mq w sb L σ)(bo:LM)(bc:Nat)(bs:JK (Nat × bF))(hp:gy w bo (bs.map Prod.fst))(Ei:∀a,bo=O a->a.block≠sb)(uH:∀x∈bs,bM 144 (λb=>¬Xq b) w x.1 x.2)(nC:∀x∈bs,oK q x.2)(hl:N bs<=1000) :
  Calls V 188 #[Y (O (aD sb 0)),I Qp ((2 ^ (N q.au.xs)-1:Nat):Int),Z bo (N bs) bc] w λe w'=>(∃v,e=Qu v)/\∃L',gW W0 f ts q Xq Mq w' sb L' { σ with bP:=(bs.map Prod.snd).foldl (lK ts q) σ.bP }/\aB (λb=>¬Mq b) w w':=by
 obtain⟨v0,v1,v2,v3,v4,v5,v6,v7,v8,v9,fO,fP,fQ,iq,-,-,-,-,-,-,-,-,aG,-⟩:=Jh f ts q;obtain⟨aY,aZ⟩:=bH hp Ei;have rP:Qm (N (bs.map Prod.fst)=N bs):=ZX _;obtain⟨A,z⟩:=eY (λk=>((bs.map Prod.snd).take k).foldl (lK ts q) σ.bP:Nat->bF);obtain⟨BD,aH⟩:=eY (λk=>E (bs.map Prod.snd) k uT:Nat->bF);have aK:Qm (∀k,k<N bs->A (k+1)=iY (A k) (dQ ts q (BD k))):=λk hk=>by rw[z,aH];exact adH ts q σ.bP _ (by rw[ZX];exact hk)
 have HE:=Zh (by rw[z];show ((bs.map Prod.snd).take (N bs)).foldl _ _=_;rw[XW Qa]:A (N bs)=(bs.map Prod.snd).foldl (lK ts q) σ.bP)
 have aL:=Zh (by  rw[z];rfl:A 0=σ.bP)
 have aM:Qm (∀k,k<N bs->bM 144 (λb=>¬Xq b) w (E (bs.map Prod.fst) k 0) (BD k)/\oK q (BD k)):=λk hk=>by grind
 have V6:Qm (∀(x:U) (r:Nat) (t:bF),Fz (λb=>¬Xq b) W0 x->bM 144 (λb=>¬Xq b) x r t->oK q t->Calls V 219 #[Qt #[v0,v1,v2,v3,v4,v5,v6,v7,v8,v9,fO,fP,fQ],Y (O (aD r 0))] x (oC 144 136 (λb=>¬Xq b) x (dQ ts q t))):=λx r t hx hr ht=>by rw[<-iq];exact YF Eq hx r t hr ht
 have aN:Qm (∀t,N (dQ ts q t)<=2):=λt=>by unfold dQ;split <;> simp
 have HH:Qm (gW W0 f ts q Xq Mq w sb { L with bP:=L.bP } { σ with bP:=A 0 }):=by rw[aL.o];exact h
 have ai:=Zh iq;have ak:Qm (∀b,¬Xq b->b≠sb):=λb hb e=>hb (e ▸ h.sub _ h.msb);have aP:Qm (∀b,¬Mq b->b≠sb):=λb hb e=>hb (e ▸ h.msb);have ax:=h.cells iq;have c8:Qo w (aD sb 8)=O (I Qp ((2 ^ (N q.au.xs)-1:Nat):Int)):=by rw[<-aG];exact ax.cell 8
 generalize 2 ^ (N q.au.xs)-1=SS at c8 ⊢;clear hp Ei uH nC h z aH iq ax aG Eq;generalize bs.map Prod.fst=bf,(bs.map Prod.snd).foldl (lK ts q) σ.bP=R,N bs=bl at*;go_enter func188,ntmps188;go_wp2;go_loopw [18] (λiv wr=>∃(k bp:Nat),k<=bl/\iv=I J (k:Int)/\Qm (gW W0 f ts q Xq Mq wr sb { L with bP:=bp } { σ with bP:=A k })/\Qm (aB (λb=>b≠sb) w wr)) (λiv _=>bl-(intOf iv).toNat)
 case atStart=>exact⟨0,L.bP,ZR _,rfl,HH.o,Xj _ _⟩
 case round=>
  obtain⟨k,bp,hk,rfl,HA,HK⟩:=hrel;by_cases aT:k<bl
  .obtain⟨tb,bA,bg,aI⟩:=gy.get (aY.o.eG HK.o (λ_ a ha=>aZ.o a ha)) (i:=k) (by rw[rP.o];exact aT);subst bg;have ay:=aI k (by rw[rP.o];exact aT);have n:=aM.o k aT;generalize E bf k 0=a at ay n;obtain⟨bn,bq⟩:=bH (n.1.eG (HK.o.mono λb _ hb=>ak.o b hb)) n.2;have l:=HA.o.cells ai.o;simp only at l;have Nt:=aK.o k aT;have aA:=V6.o wr.drew a (BD k) (HA.o.hz.next ((Za _ _).drew)) (bn.o.aj ((Za _ _).drew)) bq.o;have aQ:=Zh (aN.o (BD k));generalize dQ ts q (BD k)=EN at*;have aR:=Zh Nt;obtain⟨G,P⟩:=eY (Value.slice (O (aD L.gs 0)) (N σ.az) L.adE)
   obtain⟨Q,W⟩:=eY (L.av);obtain⟨aa,ag⟩:=eY (L.pv);rw[<-P,<-W,<-ag]at l;have V4:=Zh l;have FO:Qm (G=Value.slice (O (aD L.gs 0)) (N σ.az) L.adE/\Q=L.av/\aa=L.pv):=⟨P,W,ag⟩;have aC:=l.at 16;have aS:Qo wr.drew (aD sb 16)=O (Y (O (aD bp 0))):=aC;clear aI n l Nt P W ag;obtain⟨wq,bu⟩:=eY (wr);subst bu;go_wp2_with fail;refine ZI (S:=λx=>aB (λb=>b≠sb) wq x/\∃u,GB x sb 138 #[v0,v1,v2,v3,v4,v5,v6,v7,v8,v9,fO,fP,fQ,G,Q,Qq σ.cut,u,aa,I J σ.status]) Qd ⟨Xl ((Za (M (H wq)) wq).drew),_,V4.o⟩ (λd=>?_);refine wX4 0 d ?_;refine wX3 5 d ?_;refine wT 8 (Qt #[v0,v1,v2,v3,v4,v5,v6,v7,v8,v9,fO,fP,fQ]) d (λx hx=>?_) ?_
   .obtain⟨u,hu⟩:=hx.2;obtain⟨e0,e1,e2,e3,e4,e5,e6,e7,e8,e9,bB,bD,bE⟩:=hu.vV;go_simp
   refine wX1 9 d ?_;refine wJ 4 10 (λK j=>?_) λK j=>?_;go_simp;refine j.o _ _ d λd=>?_;refine wR 10 λK j=>?_
   all_goals
    go_simp;refine Jg aA ?_;rintro e w2 ⟨v,us,rfl,ah,gH,bz⟩;have p:=(Za (M (H wq)) wq).drew.trans bz;have B:=V4.o.up p;have aU:=B.at 16;have aV:N us<=2:=by
     have h1:N us=N EN:=by rw[<-ah,ZX]
     rw[h1];exact aQ.o
    obtain⟨ua,uc,rfl,K9,-,-,-⟩:=vF (xs:=us.map Prod.fst) gH.own (by rw[gH.len];omega);rw[gH.len]at gH ⊢;refine j.o _ _ ⟨Xl p,_,B⟩ (λd=>?_)
   rotate_left
   refine wR 4 λK j=>?_;go_simp;refine j.o _ _ d λd=>?_
   all_goals
    have C:=UQ bp (A k) ((HA.o.bP).own p (v:=Z ua (N us) uc) (λg e=>(Xy gH.own e).1)) ua uc us K9 (λx hx=>(gH.iE x hx).1) X;rw[ah,<-aR.o]at C;refine wR 11 λK j=>?_;go_simp;refine Jg C ?_;rintro e w3 ⟨r,rfl,hT,aJ⟩;have En:=aO p aJ;have m:=V4.o.up En;refine j.o _ _ ⟨Xl En,_,m⟩ (λd=>?_);clear j K;refine wX2 12 d ?_;have aW:=m.at 16;have aX:=m.frozen 16;have D:GB (Qn w3 (aD sb 16) (Y (O (aD r 0)))) sb 138 #[v0,v1,v2,v3,v4,v5,v6,v7,v8,v9,fO,fP,fQ,G,Q,Qq σ.cut,Y (O (aD r 0)),aa,I J σ.status]:=m.set 16 _;have y:aB (λb=>b≠sb) wq (Qn w3 (aD sb 16) (Y (O (aD r 0)))):=(Xl En).trans (Xu _ _ _ (λh=>h rfl));refine wR 14 λK j=>?_;go_simp;refine j.o _ _ ⟨y,_,D⟩ (λd=>?_);clear j K;refine wD ?_;try simp only[pV]
    have HF:Qm (gW W0 f ts q Xq Mq (Qn w3 (aD sb 16) (Y (O (aD r 0)))) sb { L with bP:=r } { σ with bP:=A (k+1) }/\aB (λb=>b≠sb) w (Qn w3 (aD sb 16) (Y (O (aD r 0))))):=⟨HA.o.atS y (by
      rw[ai.o,FO.o.1,FO.o.2.1,FO.o.2.2]at*;exact D) (hT.afn.eG (Xu _ _ _ (λh=>ak.o _ h rfl))),HK.o.trans y⟩
    clear d aW aX D y C hT aJ En m gH K9 aV ah B aC aS aU ay aA;refine gQ ?_;exact⟨k+1,r,X,Qe,HF.o.1,HF.o.2⟩
  .have aF:bl=k:=X
   have HF:Qm (∃L',gW W0 f ts q Xq Mq wr sb L' { σ with bP:=R }/\aB (λb=>¬Mq b) w wr):=by refine⟨{ L with bP:=bp },?_,HK.o.mono λb _ hb=>aP.o b hb⟩;have:=HA.o;rw[<-aF,HE.o]at this;exact this
   clear aF;go_wp2;go_end0;exact⟨⟨_,rfl⟩,HF.o⟩
def zh.pos(h:zh q s g):0<N g:=by obtain⟨a,r,rfl,-⟩:=h.head;simp
theorem alI(Eq:vS f ts q W0){L:yB}(h:gW W0 f ts q Xq Mq w sb L σ)(hc:tY q σ)(xz:N σ.aL<=900000)(s:Nat)(tq:s<2 ^ (N q.au.xs)-1)(bo:LM)(bc:Nat)(bs:JK (Nat × bF))(hp:gy w bo (bs.map Prod.fst))(Ei:∀a,bo=O a->¬Mq a.block)(uH:∀x∈bs,bM 144 (λb=>¬Xq b) w x.1 x.2)(xG:(bs.map Prod.fst).Nodup)(Lj:∀p∈σ.az.getD s [],∀x,p.2=O x->L.A s x.1 ∉ bs.map Prod.fst)(hl:N bs<=1000)(YQ:∀x∈bs,V5 q s x.2) :
  Calls V 188 #[Y (O (aD sb 0)),I Qp (s:Int),Z bo (N bs) bc] w λe Q=>(∃v,e=Qu v)/\dW W0 f ts q Xq Mq w sb (ed gK ts q s (bs.map Prod.snd) σ) Q:=by
 obtain⟨v0,v1,v2,v3,v4,v5,v6,v7,v8,v9,fO,fP,fQ,iq,-,-,-,-,-,-,-,-,ak,-⟩:=Jh f ts q;have m:s<N σ.az:=by rw[hc.qw];exact tq
 have aC:2 ^ (N q.au.xs)<=32:=ZP (n:=2) X Eq.jM;have R:N σ.az<=31:=by rw[hc.qw];omega
 obtain⟨av,u,ax,ay⟩:=h.nN s m;have Sy:=hc.nN s m;have i:=h.cells iq;have C:=h.Bt s m;have fG:=h.ne;have D:Qm (ed gK ts q s (bs.map Prod.snd) σ = { σ with az:=σ.az.set s (bq ts q (E σ.az s []) (bs.map Prod.snd)).2,aL:=if (bq ts q (E σ.az s []) (bs.map Prod.snd)).1=T then ng gK s (σ.az.set s (bq ts q (E σ.az s []) (bs.map Prod.snd)).2) σ.aL else σ.aL }):=by show _=_;unfold ed;rw[Zk X]
 have B:=Bg (ts:=ts) Sy (l:=bs.map Prod.snd) (λt ht=>Qb);have dY:(bq ts q (E σ.az s []) (bs.map Prod.snd)).2.length=N (E σ.az s []):=by have:=congrArg N B.2.2;simpa using this
 have W:Qm (∀x,Bw w x->Calls V 220 #[Z (O (aD (L.gb s) 0)) (N (E σ.az s [])) (L.Wh s),Qt #[v0,v1,v2,v3,v4,v5,v6,v7,v8,v9,fO,fP,fQ],Z bo (N bs) bc] x λe Q=>e=Qu (Qq (bq ts q (E σ.az s []) (bs.map Prod.snd)).1)/\(∃G,dJ 144 206 (λb=>¬Xq b) Q (L.gb s) G (L.os s) (bq ts q (E σ.az s []) (bs.map Prod.snd)).2)/\aB (λb=>b≠L.gb s) x Q):=λx d=>by rw[<-iq];exact YP Eq (h.hz.next d) (av.aj d) (λhn=>hn (h.sub _ u)) Sy (L.Wh s) ax ay bo bc bs (hp.aj d) (λa e e'=>Ei a e (e' ▸ u)) (λy hy=>(uH y hy).aj d) xG Lj hl YQ
 have aa:Qm (∀(x:U) (G:Nat->Nat),aB (λb=>b≠L.gb s) w x->dJ 144 206 (λb=>¬Xq b) x (L.gb s) G (L.os s) (bq ts q (E σ.az s []) (bs.map Prod.snd)).2->gW W0 f ts q Xq Mq x sb { L with A:=λk=>if k=s then G else L.A k } { σ with az:=σ.az.set s (bq ts q (E σ.az s []) (bs.map Prod.snd)).2 }):=λx G hk hg=>h.aF m hk hg dY;have ag:Qm (∀(x:U) (L':yB),gW W0 f ts q Xq Mq x sb L' { σ with az:=σ.az.set s (bq ts q (E σ.az s []) (bs.map Prod.snd)).2 }->Calls V 221 #[Y (O (aD sb 0)),I Qp (s:Int)] x λe Q=>(∃v,e=Qu v)/\dW W0 f ts q Xq Mq x sb { σ with az:=σ.az.set s (bq ts q (E σ.az s []) (bs.map Prod.snd)).2,aL:=ng gK s (σ.az.set s (bq ts q (E σ.az s []) (bs.map Prod.snd)).2) σ.aL } Q):=λx L' d=>
  adG d s X Qb (λk hk=>by
   show 0<N (E (σ.az.set s _) k []);have yt:k<N σ.az:=Qb;rw[oD];split
   .rw[dY];exact Sy.pos
   .exact(hc.nN k yt).pos) (λt ht=>(hc.task t ht).ig Eq.jM R) xz
 have aG:Qm (∀b,¬Mq b->b≠L.gb s):=λb hb e=>hb (e ▸ u);have j:Qm (sb≠L.gb s/\L.gs≠L.gb s):=⟨λe=>(fG.2.2.2 s m).1 e.symm,λe=>h.gsx (e ▸ h.sub _ u)⟩;have aN:¬((s:Int)=((2 ^ (N q.au.xs)-1:Nat):Int)):=X;have ah:Qo w (aD sb 8)=O (I Qp ((2 ^ (N q.au.xs)-1:Nat):Int)):=by rw[<-ak];exact i.cell 8
 have LY:=i.at 13;have aH:=Zh i;have O4:(s:Int)<(N σ.az:Int):=X;generalize ed gK ts q s (bs.map Prod.snd) σ=KN,bq ts q (E σ.az s []) (bs.map Prod.snd)=IM at*;obtain⟨I1,I2⟩:=IM;simp only at D W aa ag;generalize aK:2 ^ (N q.au.xs)-1=SS at*;generalize N (E σ.az s [])=ggl at*;generalize L.gb s=ggb,L.Wh s=ggc,L.gs=ggs at*;generalize aM:N σ.az=gn at*;generalize L.adE=ayM at*;clear h hc xz hp Ei uH xG Lj hl YQ m aC R av u ax ay Sy i fG B dY iq ak aK aM tq Eq;go_enter func188,ntmps188;go_wp2_with fail;have i:=aH.o;obtain⟨a0,a1,a2,a3,a4,a5,a6,a7,a8,a9,wU,yD,yE⟩:=i.vV;clear i;refine ZI (S:=λx=>aB (λb=>b≠ggb) w x) Qd (Xl ((Za (M (H w)) w).drew)) (λg=>?_);refine wt 0 (Y (O (aD sb 0))) g ?_;refine wt 1 (Y (O (aD sb 0))) g ?_;refine wt 2 (Y (O (aD sb 13))) g ?_;refine wT 3 (Z (O (aD ggs 0)) gn ayM) g (λx d=>?_) ?_
 .have e0:=JE d LY j.o.1;go_simp
 refine wt 4 (I Qp (s:Int)) g ?_;refine wt 5 (Y (O (aD ggs s))) g ?_;refine wT 6 (Z (O (aD ggb 0)) ggl ggc) g (λx d=>?_) ?_
 .have e0:=JE d C j.o.2;go_simp
 refine wt 7 (Y (O (aD sb 0))) g ?_;refine wt 8 (Y (O (aD sb 0))) g ?_;refine wt 9 (Y (O (aD sb 0))) g ?_;refine wT 10 (Qt #[v0,v1,v2,v3,v4,v5,v6,v7,v8,v9,fO,fP,fQ]) g (λx d=>?_) ?_
 .have e0:=JE d a0 j.o.1;have e1:=JE d a1 j.o.1;have e2:=JE d a2 j.o.1;have e3:=JE d a3 j.o.1;have e4:=JE d a4 j.o.1;have e5:=JE d a5 j.o.1;have e6:=JE d a6 j.o.1;have e7:=JE d a7 j.o.1;have e8:=JE d a8 j.o.1;have e9:=JE d a9 j.o.1;have aO:=JE d wU j.o.1;have aP:=JE d yD j.o.1;have aQ:=JE d yE j.o.1;go_simp
 refine wt 11 (Z bo (N bs) bc) g ?_;refine wR 12 λK hK=>?_;go_simp;refine Jg (W.o _ ((Za (M (H w)) w).drew)) ?_;rintro e w2 ⟨rfl,aI,jf⟩;refine hK.o _ _ (g.trans jf) (λg=>?_);clear hK K;refine wR 13 λK hK=>?_;go_simp;refine hK.o _ _ g λg=>?_;clear hK K;refine wD ?_;try simp only[pV]
 try simp only[pV]
 obtain⟨G,P⟩:=aI;have z:=g;have r:=aa.o w2 G z P;obtain⟨aJ,Bl⟩:=bH r (z.mono λb _ hb=>aG.o b hb)
 cases I1 with
 |false =>
  have HF:Qm (dW W0 f ts q Xq Mq w sb KN w2):=by rw[D.o];exact⟨_,r.post Bl.o⟩
  clear g P z r a0 a1 a2 a3 a4 a5 a6 a7 a8 a9 wU yD yE C LY ah;go_wp2;go_end0;exact⟨⟨_,rfl⟩,HF.o⟩
 |true =>
  have ai:=ag.o w2 _ r;clear g P z r a0 a1 a2 a3 a4 a5 a6 a7 a8 a9 wU yD yE C LY ah;go_wp2_with fail;refine ai.mono ?_;rintro e w3 ⟨⟨rv,rfl⟩,aA⟩;have HF:Qm (dW W0 f ts q Xq Mq w sb KN w3):=by
   rw[D.o];exact dW.trans Bl.o (λ_ h=>h) (λ_ h=>.inl h) (λb=>⟨λh=>.inl h,λh=>by
    rcases h with h|h
    .exact h
    .exact aJ.o.sub b h⟩) aA
  clear ai aA;go_wp2;go_end0;exact⟨⟨_,rfl⟩,HF.o⟩
def SC(Eq:vS f ts q W0){L:yB}(h:gW W0 f ts q Xq Mq w sb L σ)(hc:tY q σ)(xz:N σ.aL<=900000)(s:Nat)(tq:s<2 ^ (N q.au.xs))(bo:LM)(bc:Nat)(bs:JK (Nat × bF))(hp:gy w bo (bs.map Prod.fst))(Ei:∀a,bo=O a->¬Mq a.block)(uH:∀x∈bs,bM 144 (λb=>¬Xq b) w x.1 x.2)(xG:(bs.map Prod.fst).Nodup)(Lj:∀k,k<N σ.az->∀p∈σ.az.getD k [],∀x,p.2=O x->L.A k x.1 ∉ bs.map Prod.fst)(hl:N bs<=1000)(YQ:∀x∈bs,V5 q s x.2) :
  Calls V 188 #[Y (O (aD sb 0)),I Qp (s:Int),Z bo (N bs) bc] w λe d=>(∃v,e=Qu v)/\dW W0 f ts q Xq Mq w sb (ed gK ts q s (bs.map Prod.snd) σ) d:=by
 by_cases t:s=2 ^ (N q.au.xs)-1
 .subst t;refine(ahM Eq h bo bc bs hp (λa e n=>Ei a e (n ▸ h.msb)) uH (λx r=>(YQ x r).ok) hl).mono ?_;rintro e d ⟨i,j,l,m⟩;refine⟨i,j,?_⟩;have g:ed gK ts q (2 ^ (N q.au.xs)-1) (bs.map Prod.snd) σ = { σ with bP:=(bs.map Prod.snd).foldl (lK ts q) σ.bP }:=by unfold ed;rw[Zd rfl]
  rw[g];exact l.post m
 .exact alI Eq h hc xz s X bo bc bs hp Ei uH xG (Lj s (by rw[hc.qw];omega)) hl YQ
def afx{x:U}{Tq:Array Ql}(h:GB x sb t (#[v0,v1,v2,v3,v4,v5,v6,v7,v8,v9,fO,fP,fQ]++Tq)):Qo x (aD sb 0)=O v0/\Qo x (aD sb 1)=O v1/\Qo x (aD sb 2)=O v2/\Qo x (aD sb 3)=O v3/\Qo x (aD sb 4)=O v4/\Qo x (aD sb 5)=O v5/\Qo x (aD sb 6)=O v6/\Qo x (aD sb 7)=O v7/\Qo x (aD sb 8)=O v8/\Qo x (aD sb 9)=O v9/\Qo x (aD sb 10)=O fO/\Qo x (aD sb 11)=O fP/\Qo x (aD sb 12)=O fQ:=by exact⟨(h.cell 0).trans (JG Qa),(h.cell 1).trans (JG Qa),(h.cell 2).trans (JG Qa),(h.cell 3).trans (JG Qa),(h.cell 4).trans (JG Qa),(h.cell 5).trans (JG Qa),(h.cell 6).trans (JG Qa),(h.cell 7).trans (JG Qa),(h.cell 8).trans (JG Qa),(h.cell 9).trans (JG Qa),(h.cell 10).trans (JG Qa),(h.cell 11).trans (JG Qa),(h.cell 12).trans (JG Qa)⟩
def U9(h:(bs.map Prod.fst).Pairwise (· < ·)):(bs.map Prod.fst).Nodup:=h.imp λa=>Jo a
def adJ(ts:JK af)(q:ae)(conc:JK Nat)(h8:N conc<=8)(a b:JK aK)(ha:N a<=20):N (jo ts q conc a b)<=340:=by
 have d:N (fB a)<=20:=ZU (by have:=Eh a [];simpa [fB] using this) ha;unfold jo;have key:∀l:JK (Nat × bF),N (l.flatMap λx=>jJ ts q conc x.2 b)<=17*N l:=by
  intro l
  induction l with
  |nil=>simp
  |cons x l ih =>
   rw[Zr,Zt,Zu];have:=(Kk ts q conc x.2 b h8).2;omega
 exact ZU (key _) X
theorem gW.yA{L:yB}(h:gW W0 f ts q Xq Mq w sb L σ)(hk:k<N σ.az)(hp:p∈σ.az.getD k []){y:Nat × bF}(hy:p.2=O y):L.A k y.1<M (H w):=((h.nN k hk).1.iE p hp y hy).lt
theorem apF(Eq:vS f ts q W0){L:yB}(h:gW W0 f ts q Xq Mq w sb L σ)(hc:tY q σ)(xz:N σ.aL<=900000)(i:Nat)(hi:i<N q.au.xs) :
  Calls V 147 #[Y (O (aD sb 0)),Qt #[I Qp ((2 ^ i:Nat):Int),I Qp 0]] w λe R=>(∃v,e=Qu v)/\dW W0 f ts q Xq Mq w sb (vU gK ts q (bE ts q) (2 ^ i,0) σ) R:=by
 obtain⟨v0,v1,v2,v3,v4,v5,v6,v7,v8,v9,fO,fP,fQ,iq,-⟩:=Jh f ts q;have h5:=Eq.jM;have aa:2 ^ i<2 ^ (N q.au.xs):=XR X hi;have aH:2 ^ (N q.au.xs)<=32:=ZP (n:=2) X h5;have HD:Qm (vU gK ts q (bE ts q) (2 ^ i,0) σ=ed gK ts q (2 ^ i) [dE ts q (bE ts q) (i:Int)] σ):=by show _=_;unfold vU;rw[Zd rfl,Bq i X]
 have EW:=wE ts q (conc:=bE ts q) (XN ts q) (s:=(i:Int)) X X;have ag:0<2 ^ i:=Nat.pow_pos X;have ah:0<N (dZ (2 ^ i))/\N (dZ (2 ^ i))<=64:=by refine⟨?_,alC _⟩;have:i=0∨i=1∨i=2∨i=3∨i=4:=X;rcases this with rfl|rfl|rfl|rfl|rfl <;> decide
 have Lm:Qm (∀x,Calls V 170 #[I Qp ((2 ^ i:Nat):Int)] x λe R=>∃v,e=Qu v/\R.ownsRow (M (H x)) 3 1 v (N (dZ (2 ^ i))) ((dZ (2 ^ i)).map (Value.int J))/\Bw x R):=λx=>M9 (2 ^ i) X x;have aI:=Zh (Bq i X);have aJ:Qm (∀x,Bw w x->Calls V 189 #[Qt #[v0,v1,v2,v3,v4,v5,v6,v7,v8,v9,fO,fP,fQ],I J (i:Int)] x (dU 144 (λb=>¬Xq b) x (dE ts q (bE ts q) (i:Int)))):=λx A=>by rw[<-iq];exact YD Eq (h.hz.next A) (i:Int) X X
 have Yp:Qm (∀(x:U) (c r:Nat),Bw w x->M (H w)<=r->M (H w)<=c->Qo x (aD c 0)=O (Y (O (aD r 0)))->bM 144 (λb=>¬Xq b) x r (dE ts q (bE ts q) (i:Int))->Calls V 188 #[Y (O (aD sb 0)),I Qp ((2 ^ i:Nat):Int),Z (O (aD c 0)) 1 1] x λe R=>(∃v,e=Qu v)/\dW W0 f ts q Xq Mq x sb (vU gK ts q (bE ts q) (2 ^ i,0) σ) R):=λx c r A hr aX aS ht=>by
  rw[HD.o];exact SC Eq (h.aj A) hc xz (2 ^ i) aa (O (aD c 0)) 1 [(r,dE ts q (bE ts q) (i:Int))] ⟨Qa,λj hj=>⟨c,0,rfl,by
   grind⟩⟩ (λa e W=>by injection e with e;rw[<-e]at W;have:=(h.lt (h.sub _ W)).2;grind) (λy Q=>by rw[XH]at Q;rw[Q];exact ht) Qa (λk hk p hp y Q W=>by
    rw[List.map_singleton,XH]at W;have:=h.yA hk hp Q;omega) Qa (λy Q=>by rw[XH]at Q;rw[Q];exact⟨EW.1,EW.2.1,Qb⟩)
 obtain⟨aN,aP⟩:=bH h iq;have t:=h.blk;rw[iq]at t;have ai:Qm (∀b,M (H w)<=b->¬Mq b):=λb hb W=>Qj ((h.lt (h.sub _ W)).2);have C:∀x,Cb 187 #[Qt #[I Qp ((2 ^ i:Nat):Int),I Qp 0]] x (Qq T):=λx=>Es (2 ^ i) 0 x;clear h hc xz hi h5 aa aH HD EW ag Eq iq;generalize vU gK ts q (bE ts q) (2 ^ i,0) σ=DN at*;generalize dE ts q (bE ts q) (i:Int)=ST,dZ (2 ^ i)=RL at*;generalize 2 ^ i=tl at Lm Yp C ⊢;generalize rY L σ=Tq at t;have V4:=Zh t;clear t;obtain⟨w1,dB,bL,sK⟩:=bI w #[I Qp (tl:Int),I Qp 0] 165;obtain⟨t0,t1⟩:=sK.k2;obtain⟨aQ,CE⟩:=bH bL (V4.o.up bL);have ak:=C w1;clear bL sK C;go_enter func147,ntmps147;go_wp2_with fail;refine mR ak λw2 B=>?_;clear ak dB;have s0:=cB B t0;obtain⟨u,z⟩:=bH (aO aQ.o B) (CE.o.up B);clear B t0 t1;go_wp2_with fail;refine ZI (S:=λx=>aB (λb=>¬Mq b) w2 x/\∃Tq,GB x sb 138 (#[v0,v1,v2,v3,v4,v5,v6,v7,v8,v9,fO,fP,fQ]++Tq)) Qd ⟨Xl ((Za (M (H w2)) w2).drew),_,z.o⟩ (λd=>?_);refine wt 0 (Y (O (aD sb 0))) d ?_;refine wt 1 (Y (O (aD (M (H w)) 0))) d ?_;refine wT 2 (I Qp (tl:Int)) d (λx A=>?_) ?_
 .have e0:=JE A.1 s0 (ai.o _ (Zb _));go_simp
 refine wt 3 (Y (O (aD sb 0))) d ?_;refine wt 4 (Y (O (aD sb 0))) d ?_;refine wt 5 (Y (O (aD sb 0))) d ?_;refine wT 6 (Qt #[v0,v1,v2,v3,v4,v5,v6,v7,v8,v9,fO,fP,fQ]) d (λx A=>?_) ?_
 .obtain⟨T2,YE⟩:=A.2;obtain⟨e0,e1,e2,e3,e4,e5,e6,e7,e8,e9,aT,aU,aV⟩:=afx YE;go_simp
 refine wt 7 (Y (O (aD (M (H w)) 0))) d ?_;refine wT 8 (I Qp (tl:Int)) d (λx A=>?_) ?_
 .have e0:=JE A.1 s0 (ai.o _ (Zb _));go_simp
 refine wR 9 λK g=>?_;go_simp;refine Jg (Lm.o _) ?_;rintro e w3 ⟨v,rfl,hv,av⟩;have l:=(Za (M (H w2)) w2).drew.trans av;obtain⟨iv,ax,ay,G,-⟩:=lJ hv X;obtain⟨ja,jc,jx⟩:=iv;simp only[aA.val]at ax ay G;subst ay;subst ax;obtain⟨jb,aW,rfl,az⟩:=Q3 G.2 ah.1;have j0:=az 0 ah.1;rw[Xg,aI.o]at j0;have aK:=Zh (z.o.up l);refine g.o _ _ ⟨Xl l,_,aK.o⟩ (λd=>?_);clear g K hv G az;refine wR 10 λK g=>?_;go_simp;refine g.o _ _ d λd=>?_;clear g K;refine wR 11 λK g=>?_;go_simp;refine g.o _ _ d λd=>?_;clear g K;refine wR 12 λK g=>?_;go_simp;refine Jg (aJ.o _ (aO u.o l)) ?_;rintro e w4 ⟨r,rfl,aC,lN,aR,aF⟩;have uQ:=aO l aF;refine g.o _ _ ⟨Xl uQ,_,z.o.up uQ⟩ (λd=>?_);clear g K;refine wR 13 λK g=>?_;go_simp;obtain⟨w6,yw⟩:=eY (w4.alloc (Qs #[Y (O (aD r 0))] 136));have D:Bw w4 w6:=by rw[yw];exact fo _ _
 have m:=aO uQ D;have c6:Qo w6 (aD (M (H w4)) 0)=O (Y (O (aD r 0))):=by rw[yw];simp
 rw[<-yw];clear yw;have yu:=Zh (aO u.o m);refine g.o _ _ ⟨Xl m,_,z.o.up m⟩ (λd=>?_);clear g K;refine wR 14 λK g=>?_;go_simp;refine Jg (Yp.o w6 (M (H w4)) r yu.o (Qk u.o.size l.size) (Qk u.o.size uQ.size) c6 (aC.aj D)) ?_;rintro e w7 ⟨⟨rv,rfl⟩,P⟩;have aM:=P;obtain⟨L7,X7,M7,aG,KZ,-⟩:=aM;refine g.o _ _ ⟨(Xl m).trans KZ,_,by have:=aG.blk;rw[aP.o]at this;exact this⟩ (λd=>?_);clear g K aG KZ c6 D m aC lN aR aF uQ l av j0;refine wD ?_;try simp only[pV]
 try simp only[pV]
 have HF:Qm (dW W0 f ts q Xq Mq w sb DN w7):=dW.trans (Xk yu.o (λ_ h hb=>h)) (λ_ h=>h) (λ_ h=>.inl h) (λb=>⟨λh=>.inl h,λh=>by
  rcases h with h|h
  .exact h
  .exact aN.o.sub b h⟩) P
 clear d P s0;go_wp2;refine Jr (results_none rfl _ _ _) rfl ?_;exact⟨⟨_,rfl⟩,HF.o⟩
theorem apH(Eq:vS f ts q W0){L:yB}(h:gW W0 f ts q Xq Mq w sb L σ)(hc:tY q σ)(xz:N σ.aL<=900000)(tl tr:Nat)(hr0:tr≠0)(F9:tl<N σ.az)(lN:tr<N σ.az)(hlr:tl &&& tr=0)(hhr:(df (E σ.az tr [])).isSome=T) :
  Calls V 147 #[Y (O (aD sb 0)),Qt #[I Qp (tl:Int),I Qp (tr:Int)]] w λe w'=>(∃v,e=Qu v)/\dW W0 f ts q Xq Mq w sb (vU gK ts q (bE ts q) (tl,tr) σ) w':=by
 obtain⟨v0,v1,v2,v3,v4,v5,v6,v7,v8,v9,fO,fP,fQ,iq,-⟩:=Jh f ts q;have h5:=Eq.jM;have aF:2 ^ (N q.au.xs)<=32:=ZP (n:=2) X h5;have F6:=hc.qw;have HD:Qm (vU gK ts q (bE ts q) (tl,tr) σ=ed gK ts q (tl|||tr) (jo ts q (bE ts q) (E σ.az tl []) (E σ.az tr [])) σ):=by show _=_;unfold vU;rw[Zk hr0]
 have P:tl|||tr<2 ^ (N q.au.xs):=vZ X X;have Q:=Cz (ts:=ts) (XN ts q) hlr (hc.nN tl F9) (hc.nN tr lN) hhr;have h8:N (bE ts q)<=8:=by rw[XN];exact Eq.ko
 have aG:=adJ ts q (bE ts q) h8 (E σ.az tl []) (E σ.az tr []) (hc.nN tl F9).M6;have aH:Qm (∀x,Bw w x->Calls V 190 #[Qt #[v0,v1,v2,v3,v4,v5,v6,v7,v8,v9,fO,fP,fQ],Z (O (aD (L.gb tl) 0)) (N (E σ.az tl [])) (L.Wh tl),Z (O (aD (L.gb tr) 0)) (N (E σ.az tr [])) (L.Wh tr)] x (oC 144 136 (λb=>¬Xq b) x (jo ts q (bE ts q) (E σ.az tl []) (E σ.az tr [])))):=λx i=>by rw[<-iq];exact ahK Eq (h.hz.next i) ((h.nN tl F9).1.aj i) (hc.nN tl F9).M6 (L.Wh tl) (λp hp y t=>((hc.nN tl F9).all p hp y t).1) ((h.nN tr lN).1.aj i) (hc.nN tr lN).M6 (L.Wh tr) (λp hp y t=>((hc.nN tr lN).all p hp y t).1) hhr
 have Yp:Qm (∀(x x0:U) (v:Ql) (bs:JK (Nat × bF)),Bw w x0->Bw x0 x->bs.map Prod.snd=jo ts q (bE ts q) (E σ.az tl []) (E σ.az tr [])->gG 144 136 (λb=>¬Xq b) (M (H x0)) x v bs->∃bo bc,v=Z bo (N bs) bc/\Calls V 188 #[Y (O (aD sb 0)),I Qp ((tl|||tr:Nat):Int),Z bo (N bs) bc] x λe w'=>(∃v,e=Qu v)/\dW W0 f ts q Xq Mq x sb (vU gK ts q (bE ts q) (tl,tr) σ) w'):=λx x0 v bs VX i uH l=>by
  have YU:N bs<=340:=by grind
  obtain⟨bo,bc,rfl,K9,-,-,aP⟩:=vF (xs:=bs.map Prod.fst) l.own (by rw[l.len];omega);rw[l.len]at l ⊢;refine⟨bo,bc,rfl,?_⟩;rw[HD.o,<-uH];exact SC Eq (h.aj (aO VX i)) hc xz (tl|||tr) P bo bc bs K9 (λa e hm=>by have h1:=(h.lt (h.sub _ hm)).2;have h2:=aP a e;have:=VX.size;omega) (λy t=>(l.iE y t).1.afn) (U9 l.Hu) (λk hk p hp y t hm=>by
   obtain⟨z,hz,e⟩:=Xc.1 hm;have h1:=h.yA hk hp t;have h2:=(l.iE z hz).2.1;have h3:=VX.size;rw[e]at h2;omega) X (λy t=>Q y.2 Qb)
 obtain⟨aQ,aR⟩:=bH h iq;have R:=h.cells iq;have m:=h.blk;rw[iq]at m;have LY:=R.at 13;have W:=h.Bt tl F9;have aa:=h.Bt tr lN;have ag:Qm (∀b,M (H w)<=b->¬Mq b):=λb hb hm=>Qj ((h.lt (h.sub _ hm)).2);have ah:∀x,Cb 187 #[Qt #[I Qp (tl:Int),I Qp (tr:Int)]] x (Qq F):=λx=>by
  have:=Es tl tr x
  rwa [ZK hr0]at this
 have aI:(tl:Int)<(N σ.az:Int):=X;have aJ:(tr:Int)<(N σ.az:Int):=X;have aK:Qm (∀(b:Nat) (x:U),Qo x (aD b 0)=O (I Qp (tl:Int))->Qo x (aD b 1)=O (I Qp (tr:Int))->Ce 139 #[Z (O (aD b 0)) 2 2] x (I Qp ((tl|||tr:Nat):Int))):=λb x h0 h1=>qD b tl tr x h0 h1 X X;clear h hc xz hhr hlr h5 aF F6 HD P Q h8 aG R Eq iq F9 lN hr0;generalize vU gK ts q (bE ts q) (tl,tr) σ=DN,jo ts q (bE ts q) (E σ.az tl []) (E σ.az tr [])=JT,N (E σ.az tl [])=gll,N (E σ.az tr [])=glr,L.gb tl=gbl,L.gb tr=gbr,L.Wh tl=gcl,L.Wh tr=gcr at*;generalize rY L σ=Tq at m;generalize L.gs=ggs at*;generalize N σ.az=gn at LY aI aJ;generalize L.adE=ayM at*;have V4:=Zh m;clear m;generalize (tl|||tr)=TOR at*;obtain⟨w1,dB,bL,sK⟩:=bI w #[I Qp (tl:Int),I Qp (tr:Int)] 165;obtain⟨t0,t1⟩:=sK.k2;have aM:=Zh bL;have ai:=ah w1;clear bL sK ah;go_enter func147,ntmps147;go_wp2_with fail;refine mR ai λw2 C=>?_;clear ai dB;have u:=aO aM.o C;obtain⟨s0,s1⟩:=kP C t0 t1;obtain⟨aS,dl,dr⟩:=awQ u LY W aa;have ak:=Zh u;clear C u t0 t1 LY W aa;go_wp2_with fail;refine wH w2 λd=>?_;refine GZ 0 d ?_;refine wA6 10 d ?_;refine rR 16 d ?_;refine wR 17 λK g=>?_;go_simp;refine g.o _ _ d λd=>?_;clear g K;refine wD ?_;try simp only[pV]
 try simp only[pV]
 have r:=Zh ak.o.drew;have av:=Zh (V4.o.up r.o);have r0:Qo w2.drew (aD (M (H w)) 0)=O (I Qp (tl:Int)):=s0;have r1:Qo w2.drew (aD (M (H w)) 1)=O (I Qp (tr:Int)):=s1;clear d s0 s1 aS dl dr ak;generalize w2.drew=w3 at*;go_wp2_with fail;refine ZI (S:=λx=>aB (λb=>¬Mq b) w3 x/\∃Tq,GB x sb 138 (#[v0,v1,v2,v3,v4,v5,v6,v7,v8,v9,fO,fP,fQ]++Tq)) Qd ⟨Xl ((Za (M (H w3)) w3).drew),_,av.o⟩ (λd=>?_);refine wt 0 (Y (O (aD sb 0))) d ?_;refine wt 1 (Y (O (aD (M (H w)) 0))) d ?_;refine wT 2 (I Qp (tl:Int)) d (λx i=>?_) ?_
 .have e0:=JE i.1 r0 (ag.o _ (Zb _));go_simp
 refine wt 3 (Y (O (aD (M (H w)) 1))) d ?_;refine wT 4 (I Qp (tr:Int)) d (λx i=>?_) ?_
 .have e0:=JE i.1 r1 (ag.o _ (Zb _));go_simp
 refine wt 7 (Y (O (aD sb 0))) d ?_;refine wt 8 (Y (O (aD sb 0))) d ?_;refine wt 9 (Y (O (aD sb 0))) d ?_;refine wT 10 (Qt #[v0,v1,v2,v3,v4,v5,v6,v7,v8,v9,fO,fP,fQ]) d (λx i=>?_) ?_
 .obtain⟨T2,YE⟩:=i.2;obtain⟨e0,e1,e2,e3,e4,e5,e6,e7,e8,e9,aU,aV,aW⟩:=afx YE;go_simp
 refine wt 11 (Z (O (aD gbl 0)) gll gcl) d ?_;refine wt 12 (Z (O (aD gbr 0)) glr gcr) d ?_;refine wR 5 λK g=>?_;go_simp;obtain⟨G,j⟩:=eY ((w3.alloc (Qs #[I Qp (tl:Int),I Qp (tr:Int)] 114)).drew);have D:Bw w3 G:=by rw[j];exact(fo _ _).drew
 have u0:Qo G (aD (M (H w3)) 0)=O (I Qp (tl:Int)):=by rw[j];exact(GB.alloc w3 _ _).cell 0
 have u1:Qo G (aD (M (H w3)) 1)=O (I Qp (tr:Int)):=by rw[j];exact(GB.alloc w3 _ _).cell 1
 rw[<-j];clear j;have ax:∀x,Bw w3 x->GB x sb 138 (#[v0,v1,v2,v3,v4,v5,v6,v7,v8,v9,fO,fP,fQ]++Tq):=λx i=>av.o.up i;have ay:=Zh ax;clear ax;refine g.o _ _ ⟨Xl D,_,ay.o _ D⟩ (λd=>?_);clear g K;refine wR 6 λK g=>?_;go_simp;refine mR (aK.o (M (H w3)) G u0 u1) λwz aT=>?_;have xu:=aT.symm;subst xu;refine g.o _ _ d λd=>?_;clear g K u0 u1;refine wR 13 λK g=>?_;go_simp;refine Jg (aH.o G (aO r.o D)) ?_;rintro e w6 ⟨v,bs,rfl,uH,l,A⟩;obtain⟨bo,bc,rfl,aA⟩:=Yp.o w6 G v bs (aO r.o D) A uH l;have UR:=aO D A;have yu:=Zh (aO r.o UR);refine g.o _ _ ⟨Xl UR,_,ay.o _ UR⟩ (λd=>?_);clear g K;refine wR 14 λK g=>?_;generalize N bs=bl at*;go_simp;refine Jg aA ?_;rintro e w7 ⟨⟨rv,rfl⟩,B⟩;have aN:=B;obtain⟨L7,X7,M7,aC,KZ,-⟩:=aN;refine g.o _ _ ⟨(Xl UR).trans KZ,_,by have:=aC.blk;rw[aR.o]at this;exact this⟩ (λd=>?_);clear g K aC KZ UR A D l uH aA;refine wD ?_;try simp only[pV]
 try simp only[pV]
 have HF:Qm (dW W0 f ts q Xq Mq w sb DN w7):=dW.trans (Xk yu.o (λ_ h hb=>h)) (λ_ h=>h) (λ_ h=>.inl h) (λb=>⟨λh=>.inl h,λh=>by
  rcases h with h|h
  .exact h
  .exact aQ.o.sub b h⟩) B
 clear d B r0 r1;go_wp2;go_end0;exact⟨⟨_,rfl⟩,HF.o⟩
def at5(Eq:vS f ts q W0){L:yB}(h:gW W0 f ts q Xq Mq w sb L σ)(hc:tY q σ)(xz:N σ.aL<=900000)(t:bB)(ht:sM (N q.au.xs) σ.az t) :
  Calls V 147 #[Y (O (aD sb 0)),Qt #[I Qp (t.1:Int),I Qp (t.2:Int)]] w λe g=>(∃v,e=Qu v)/\dW W0 f ts q Xq Mq w sb (vU gK ts q (bE ts q) t σ) g:=by
 obtain⟨b,d⟩:=t;rcases ht with⟨a,i,hi,e⟩|⟨a,h1,h2,h3,h4,h6⟩
 .have a:d=0:=a;have e:b=2 ^ i:=e;subst a e;exact apF Eq h hc xz i hi
 .exact apH Eq h hc xz b d a h1 h2 h3 h6
section
open Go.Conc
def ahP{b:Frame}{k:JK Go.Item}{cs:JK Frame}{cases:Array CommCase}{aah:Bool}{shape:CommShape}(ho:ops[i]? = O o)(hw:Region.wanted o (yielded ops a.tmps)=T)(hr:(execOp a.eval o).run P w=.ok (.comm cases aah shape) w') :
  ∃f,Go.stepG P T (Go.Conc.G (b.at a (.inRegion ops (i::rest)::k)) cs) w=.comm (Go.Conc.G (b.at a (.inRegion ops (i::rest)::k)) cs) cases aah shape w' f:=by
 by_cases d:b.kind=.early
 .have e:(b.kind==CallKind.early)=true:=by simpa using d
  rw[stepG_oper ho hw];simp[Go.stepG.apply,hr,Go.Conc.G,Frame.at,e,GStep.after]
 .exact⟨_,stepG_comm ho hw d hr⟩
def SE{id:Nat}{c:CommCase}(hrg:List.range ops.size=0::rest)(ho:ops[0]? = O o)(hw:Region.wanted o (yielded ops a.tmps)=T)(hr:(execOp a.eval o).run P w=.ok (.comm #[c] F .select) w)
  (hs:∀(fr:Frame) (cs:JK Frame) (i:Array Event),Go.stepG P T (Go.Conc.G fr cs) w=.comm (Go.Conc.G fr cs) #[c] F .select w i->Go.step P (solo (Go.Conc.G fr cs) w)=.next (solo (Go.Conc.G (fr.finish v) cs) w)) (h:wpOps P ops Q rest (a.put o.dst v) w):(Code.region id ops F).wp P Q a w:=by
 intro b k cs;obtain⟨e,l,m,n,d⟩:=wp_ops rest _ _ h b k cs;obtain⟨i,f⟩:=ahP (P:=P) (b:=b) (k:=k) (cs:=cs) (rest:=rest) ho hw hr;have j:Go.step P (lone (b.at a (.inRegion ops (0::rest)::k)) cs w)=.next (lone (b.at (a.put o.dst v) (.inRegion ops rest::k)) cs w):=by have g:=hs _ _ _ f;rw[Frame.finish_at,ho]at g;exact g
 refine⟨e,l,m,n,.of_steps (.head ?_ (.one j)) d⟩;have:=step_region (P:=P) (b:=b) (a:=a) (k:=k) (cs:=cs) (w:=w) (ops:=ops) (id:=id);rw[hrg]at this;exact this
def wI(ho:ops[i]? = O o)(hw:Region.wanted o (yielded ops a.tmps)=T)(hr:(execOp a.eval o).run P w=.ok (.value v) w)(h:wpOps P ops Q rest (a.put o.dst v) w):wpOps P ops Q (i::rest) a w:=by simp only[wpOps,ho,hw,if_true];left;unfold Oper.wp;rw[hr];exact h
def ahQ{L:yB}(h:gW W0 f ts q Xq Mq w sb L σ)(c:Nat)(pick:Int)(s r:Nat)(tm:Bool)(hc:w.heap[c]? = O (.chan 0 #[] T s r tm)) :
  Calls V 104 #[Y (O (aD sb 0)),.chan (O c),I J pick] w λe u=>(∃v,e=Qu v)/\dW W0 f ts q Xq Mq w sb { σ with status:=4 } u:=by
 obtain⟨v0,z,v2,v3,v4,v5,A,B,C,v9,D,G,K,i,-⟩:=Jh f ts q;have a:=h.cells i;have m:=a.at 18;have n:=a.frozen 18;have p:=Zh hc;have t:Qm (dW W0 f ts q Xq Mq w sb { σ with status:=4 } (Qn w (aD sb 18) (I J 4))):=by have l:=h.ne;have d:aB (λb=>b≠sb) w (Qn w (aD sb 18) (I J 4)):=Xu _ _ _ (λh=>h rfl);refine⟨_,h.next (d.mono λb _ y=>y.1) (av:=L.av) (pv:=L.pv) (ag:=σ.aL) (pk:=σ.picks) (st:=4) ?_ (Xw h.ag d (λg e j=>l.1 (j ▸ e))) (.inl rfl) (Xw h.pk d (λg e j=>l.2.1 (j ▸ e))) (.inl rfl)⟩;rw[i];exact a.set 18 (I J 4)
 clear hc h a i;go_enter func104,ntmps104;go_upto_region 1 with fail;refine SE (rest:=[1,2]) (c:=rcase c (Qt #[])) (v:=.tuple #[goInt (0),Qq F,Qt #[]]) Qd rfl Qd (by simp[go_sem,execOp,rcase,rcaseNil,Act.eval]) (λfr cs P k=>step_lone_select_recv_shut k p.o) ?_;refine wI (v:=I J (0)) rfl Qd (by simp[go_sem,execOp,Act.eval,Act.put,goInt]) ?_;refine wI (v:=Qq T) rfl Qd (by simp[go_sem,execOp,Act.eval,Act.put,goInt]) ?_;show Exit.then _ _ Exit.normal _ _;simp only[Act.put,List.getElem_toArray,List.getElem_cons_succ,List.getElem_cons_zero,Zp,QX,QY];go_wp2;go_end0;exact⟨⟨_,rfl⟩,t.o⟩
end
section
open Go.Conc
def ayS(f:bC)(ts:JK af)(q:ae)(L:yB)(σ:fE)(pv:Ql):(f.cells ts q++rY L σ).setIfInBounds 17 pv=f.cells ts q++rY { L with pv:=pv } σ:=by obtain⟨v0,b,v2,v3,v4,v5,d,e,g,v9,i,j,k,a,-⟩:=Jh f ts q;rw[a];rfl
def SG(W:U)(base:Nat)(t ty e:TypeId)(i:TypeInfo)(z:Ql)(size bytes:Nat)(ht:P.underlying t=O (.slice e))(hi:P.info? e=O i)(hz:i.zero=O z)(I8:i.size=size)(hby:i.bytes=bytes)(hzs:z.cells.size=size)(ni:0<size)
  (v:Ql) (n:Nat) (xs:JK Ql) (bG:W.ownsRow base e size v n xs) (hb:base<=M (H W)) (kz:JK Ql) (hl:N kz=size) (h1:∀u∈kz,u.oneCell' = T) (hn:n<=2000000) (hbb:bytes<=1000) :
  ∃d f,(Builtin.append_ #[t,t] ty #[v,Z (O (aD (M (H W)) 0)) 1 1]).run P (W.alloc (Qs kz.toArray e))=.ok d f/\f.ownsRow base e size d (n+1) (xs++kz)/\aB (λb=>v.ownBlock≠O b) W f/\(∃a m c,d = Z a m c)/\(d.ownBlock=v.ownBlock∨d.ownBlock=O (M (H W)+1)):=by
 obtain⟨d,f,g,k,p,_,l⟩:=XL (P:=P) (W.alloc (Qs kz.toArray e)) base t ty e i z size bytes ht hi hz I8 hby hzs ni v n xs (bG.alloc _) (aD (M (H W)) 0) 1 1 kz (by rw[hl,Nat.one_mul])
  (λj u q=>by
   rw[Zn,ZT];simp only[World.cell?,qj W _];simpa using q) h1 Qg (by have:(n+1)*bytes<=2000001*1000:=Nat.mul_le_mul X hbb;omega) (by rw[XM];omega)
 exact⟨d,f,g,k,(Xo _ _).trans (Xv p (λr e g=>g e)),Xz k,by rw[XM]at l;exact l⟩
theorem SH(W:U)(base:Nat)(v:Ql)(xs:IC)(bG:W.ownsRow base 3 1 v (N xs) (xs.map (Value.int J)))(hl:N xs<=2000000)(hb:base<=M (H W))(a:Int)(ty:TypeId) :
  ∃d e,(Builtin.append_ #[26,26] ty #[v,Z (O (aD (M (H W)) 0)) 1 1]).run V (W.alloc (Qs #[I J a] 3))=.ok d e/\
   e.ownsRow base 3 1 d (N (xs++[a])) ((xs++[a]).map (Value.int J))/\aB (λb=>v.ownBlock≠O b) W e/\(∃a m c,d = Z a m c)/\(d.ownBlock=v.ownBlock∨d.ownBlock=O (M (H W)+1)):=by
 obtain⟨i0,k,f,g,i⟩:=XB Tryz.uN;obtain⟨d,e,l,n,p,q,r⟩:=SG (P:=V) W base 26 ty 3 i0 _ 1 8 underlying26 k f g i rfl Qc v (N xs) _ bG hb [.int J a] rfl (λu j=>by
  rw[XH]at j;rw[j];rfl) hl Qc
 grind
theorem gW.at7{L:yB}(h:gW W0 f ts q Xq Mq w sb L σ){p:Int}(ho:w1.ownsRow (M (H W0)) 3 1 pv (N (σ.picks++[p])) ((σ.picks++[p]).map (Value.int J)))(hk:aB (λb=>L.pv.ownBlock≠O b) w w1)(jl:pv.ownBlock=L.pv.ownBlock∨pv.ownBlock=O (M (H w)+1)) :
  mi W0 f ts q Xq Mq w sb { L with pv:=pv } { σ with picks:=σ.picks++[p] } (Qn w1 (aD sb 17) pv):=by
 have d:=h.ne;have a:=h.blk.bT hk d.2.1;have i:aB (λb=>b≠sb) w1 (Qn w1 (aD sb 17) pv):=Xu _ _ _ (λh=>h rfl);refine h.next ((hk.mono λb _ j=>j.2.2).trans (i.mono λb _ j=>j.1)) (av:=L.av) (pv:=pv) (ag:=σ.aL) (pk:=σ.picks++[p]) (st:=σ.status) ?_ ?_ (.inl rfl) ?_ ?_
 .have:=a.set 17 pv;rw[ayS]at this;exact this
 .exact Xw (Xw h.ag hk (λg e=>d.2.2.1 g e)) i (λg e k=>d.1 (k ▸ e))
 .exact Xw ho i (λg e k=>JF ho a Qc (k ▸ e))
 grind
def gW.ayT{L:yB}(h:gW W0 f ts q Xq Mq w sb L σ)(hg:GB w1 sb 138 ((f.cells ts q++rY L σ).setIfInBounds 14 av))(ho:w1.ownsRow (M (H W0)) 165 2 av (N ag) (ag.flatMap iA))(hk:aB (λb=>b≠sb/\L.av.ownBlock≠O b) w w1)(jl:av.ownBlock=L.av.ownBlock) :
  mi W0 f ts q Xq Mq w sb { L with av:=av } { σ with aL:=ag } w1:=by
 have d:=h.ne;refine h.next (hk.mono λb _ i=>⟨i.1,i.2.1⟩) (av:=av) (pv:=L.pv) (ag:=ag) (pk:=σ.picks) (st:=σ.status) ?_ ho (.inl jl) ?_ (.inl rfl)
 .rw[aaf]at hg;exact hg
 .exact Xw h.pk hk (λg e=>⟨λa=>d.2.1 (a ▸ e),λa=>d.2.2.1 g a e⟩)
def gW.settled{L:yB}(h:gW W0 f ts q Xq Mq w sb L σ)(xz:N σ.aL<=1000000):Calls V 149 #[Y (O (aD sb 0))] w λe n=>(∃v,e=Qu v)/\dW W0 f ts q Xq Mq w sb (jT σ) n:=by
 obtain⟨v0,r,v2,v3,v4,v5,t,u,y,v9,z,A,B,m,-⟩:=Jh f ts q;have j:=h.cells m;obtain⟨C,D,i,-⟩:=CJ h.ag xz;have d:=j;rw[i]at d;have l:=h.ne;refine(adC sb v0 r v2 v3 v4 v5 t u y v9 z A B _ _ _ C (N σ.aL) D σ.cut σ.status w d).mono ?_;rintro e n ⟨G,k,a⟩;refine⟨G,?_⟩;have p:jT σ = { σ with aL:=σ.aL,picks:=σ.picks,status:=if 0<N σ.aL then σ.status else if σ.cut=T then 3 else 2 }:=by unfold jT;split <;> rfl
 rw[p];refine⟨_,h.next (k.mono λb _ K=>K.1) (av:=L.av) (pv:=L.pv) (ag:=σ.aL) (pk:=σ.picks) (st:=if 0<N σ.aL then σ.status else if σ.cut=T then 3 else 2) ?_ (Xw h.ag k (λg e a=>l.1 (a ▸ e))) (.inl rfl) (Xw h.pk k (λg e a=>l.2.1 (a ▸ e))) (.inl rfl)⟩;rw[m];rw[<-i]at a;exact a
theorem SQ(Eq:vS f ts q W0){L:yB}(h:gW W0 f ts q Xq Mq w sb L σ)(nC:GQ q σ)(h1:σ.status=1)(AY:N σ.picks<=8000)(c:Option Nat)(hc:∀n,c=O n->∃s r tm,w.heap[n]? = O (.chan 0 #[] F s r tm))(pick:Int) :
  Calls V 104 #[Y (O (aD sb 0)),.chan c,I J pick] w λe u=>(∃v,e=Qu v)/\dW W0 f ts q Xq Mq w sb (gz gK ts q (bE ts q) pick σ) u:=by
 obtain⟨v0,v1,v2,v3,v4,v5,v6,v7,v8,v9,fO,fP,fQ,iq,-⟩:=Jh f ts q;have A:=h.cells iq;have hn:=nC.U5 h1;have xz:=nC.apu;have aZ:N σ.aL<=520000:=X;obtain⟨aa,ac,aG,-⟩:=CJ h.ag X;obtain⟨pa,pm,pc,p⟩:=Xz h.pk;have hp:=xQ hn pick;obtain⟨P,hP⟩:=eY (eF (N σ.aL) pick);obtain⟨a,j⟩:∃a:Nat,P=(a:Int):=⟨P.toNat,by rw[hP];omega⟩;have B:a<N σ.aL:=by rw[<-hP,j]at hp;omega
 have Gf:=adL aa (N σ.aL) ac pick w hn X;rw[<-hP,j]at Gf;obtain⟨v',D,lN,aH,dP,⟨za,zm,zc,rfl⟩,aI⟩:=SH w (M (H W0)) L.pv σ.picks h.pk X h.hz.aj.size P 26;rw[p,j]at lN;obtain⟨X2,M2,k,jf,G,K,Q⟩:=h.at7 aH dP aI;have bf:=Zh k;have bg:Qm (aB (λb=>¬Mq b) w (Qn D (aD sb 17) (Z za zm zc))/\(∀b,Mq b->M2 b)/\(∀b,M2 b->Mq b∨M (H w)<=b)/\(∀b,X2 b↔Xq b∨M2 b)):=⟨jf,G,K,Q⟩;have m:=h.blk.bT dP h.ne.2.1;rw[iq]at m;have ah:Qo D (aD sb 17)=O L.pv:=m.cell 17;rw[p]at ah;have bn:=m.frozen 17;have Y8:Qo w (aD sb 14)=O L.av:=A.cell 14;rw[aG]at Y8;have ai:Qo w (aD sb 17)=O L.pv:=A.cell 17;rw[p]at ai;have Lh:Qm (∀x,x=Qn D (aD sb 17) (Z za zm zc)->Calls V 148 #[Y (O (aD sb 14)),I J (a:Int)] x λe u=>e=Qu (Qt #[I Qp ((E σ.aL a (0,0)).1:Int),I Qp ((E σ.aL a (0,0)).2:Int)])/\∃y,mi W0 f ts q Xq Mq w sb y { σ with picks:=σ.picks++[P],aL:=σ.aL.eraseIdx a } u):=λx hx=>by rw[hx];refine(ahL sb (M (H W0)) a _ L.av σ.aL _ k.blk (arU f ts q _ _) k.ag X B).mono ?_;rintro e u ⟨rfl,bu,aJ,aK,yt,R⟩;exact⟨rfl,_,mi.trans jf G K Q (k.ayT aJ aK yt R)⟩
 have d:=nC.core.alx a (σ.picks++[P]);have C:sM (N q.au.xs) σ.az (E σ.aL a (0,0)):=nC.core.task _ (XI B);have bq:=alv (rk:=gK) (ts:=ts) (conc:=bE ts q) (XN ts q) (t:=E σ.aL a (0,0)) d Eq.jM C;have ak:Qm (∀x z l y,gW W0 f ts q z l x sb y { σ with picks:=σ.picks++[P],aL:=σ.aL.eraseIdx a }->Calls V 147 #[Y (O (aD sb 0)),Qt #[I Qp ((E σ.aL a (0,0)).1:Int),I Qp ((E σ.aL a (0,0)).2:Int)]] x λe u=>(∃v,e=Qu v)/\dW W0 f ts q z l x sb (vU gK ts q (bE ts q) (E σ.aL a (0,0)) { σ with picks:=σ.picks++[P],aL:=σ.aL.eraseIdx a }) u):=λx z l y hx=>
  at5 Eq hx d Qb _ C
 have ax:(vU gK ts q (bE ts q) (E σ.aL a (0,0)) { σ with picks:=σ.picks++[P],aL:=σ.aL.eraseIdx a }).aL.length<=1000000:=by grind
 have HR:=Zh (by unfold gz;simp only;rw[<-hP,j];rfl:gz gK ts q (bE ts q) pick σ=jT (vU gK ts q (bE ts q) (E σ.aL a (0,0)) { σ with picks:=σ.picks++[P],aL:=σ.aL.eraseIdx a }))
 generalize gz gK ts q (bE ts q) pick σ=SN at*;generalize vU gK ts q (bE ts q) (E σ.aL a (0,0)) { σ with picks:=σ.picks++[P],aL:=σ.aL.eraseIdx a } = DN at*;have ay:=Zh ax;generalize (E σ.aL a (0,0)).1=tl,(E σ.aL a (0,0)).2=tr,N σ.aL=an at*;have HC:=Zh hc;go_enter func104,ntmps104;go_upto_region 1 with fail;refine SE (rest:=[1,2]) (c:=match c with|none=>rcaseNil (Qt #[])|some n=>rcase n (Qt #[])) (v:=.tuple #[goInt (-1),Qq F,Qt #[]]) Qd rfl Qd (by cases c <;> simp[go_sem,execOp,rcase,rcaseNil,Act.eval]) (λfr cs es W=>by
  cases c with
  |none=>exact step_lone_select_recv_nil W
  |some n =>
   obtain⟨_,_,_,h⟩:=HC.o n rfl;exact step_lone_select_default W h) ?_
 refine wI (v:=I J (-1)) rfl Qd (by simp[go_sem,execOp,Act.eval,Act.put,goInt]) ?_;refine wI (v:=Qq F) rfl Qd (by simp[go_sem,execOp,Act.eval,Act.put,goInt]) ?_;show Exit.then _ _ Exit.normal _ _;simp only[Act.put,List.getElem_toArray,List.getElem_cons_succ,List.getElem_cons_zero,Zp,QX,QY];go_wp2_with fail;refine mR Gf λwz aY=>?_;have xu:=aY.symm;subst xu;go_wp2_with (first|(at_builtin;refine XJ rfl (.tmp 21) (.tmp 23) 26 rfl (Z pa pm pc) (Z (O (aD (M (H w)) 0)) 1 1) (Z za zm zc) D rfl rfl lN ?_));go_upto_region 4 with fail;obtain⟨w2,S⟩:=eY (Qn D (aD sb 17) (Z za zm zc));rw[<-S];have aA:=Lh.o w2 S;go_wp2_with fail;refine aA.mono ?_;rintro e w3 ⟨rfl,y,z,l,aM,aN,aO,aP,aQ⟩;have aC:=ak.o w3 z l y aM;have g:Qm (aB (λb=>¬Mq b) w w3/\(∀b,Mq b->l b)/\(∀b,l b->Mq b∨M (H w)<=b)/\(∀b,z b↔Xq b∨l b)):=⟨aN,aO,aP,aQ⟩;go_wp2_with fail;refine aC.mono ?_;rintro e w4 ⟨⟨rv,rfl⟩,aR⟩;obtain⟨L4,X4,M4,aS,aT,aU,aV,aW⟩:=dW.trans g.o.1 g.o.2.1 g.o.2.2.1 g.o.2.2.2 aR;have aF:=aS.settled ay.o;have i:Qm (aB (λb=>¬Mq b) w w4/\(∀b,Mq b->M4 b)/\(∀b,M4 b->Mq b∨M (H w)<=b)/\(∀b,X4 b↔Xq b∨M4 b)):=⟨aT,aU,aV,aW⟩;go_wp2_with fail;refine aF.mono ?_;rintro e w5 ⟨⟨bz,rfl⟩,aX⟩;have HF:Qm (dW W0 f ts q Xq Mq w sb SN w5):=by rw[HR.o];exact dW.trans i.o.1 i.o.2.1 i.o.2.2.1 i.o.2.2.2 aX
 go_wp2;go_end0;exact⟨⟨_,rfl⟩,HF.o⟩
def ahR(Eq:vS f ts q W0){L:yB}(h:gW W0 f ts q Xq Mq w sb L σ)(nC:GQ q σ)(h1:σ.status=1)(AY:N σ.picks<=8000)(pick:Int) :
  Calls V 104 #[Y (O (aD sb 0)),.chan Qr,I J pick] w λe a=>(∃v,e=Qu v)/\dW W0 f ts q Xq Mq w sb (gz gK ts q (bE ts q) pick σ) a:=SQ Eq h nC h1 AY Qr (λ_ e=>by cases e) pick
def ahS(Eq:vS f ts q W0){L:yB}(h:gW W0 f ts q Xq Mq w sb L σ)(nC:GQ q σ)(h1:σ.status=1)(AY:N σ.picks<=8000)(c s r:Nat)(tm:Bool)(hc:w.heap[c]? = O (.chan 0 #[] F s r tm))(pick:Int) :
  Calls V 104 #[Y (O (aD sb 0)),.chan (O c),I J pick] w λe a=>(∃v,e=Qu v)/\dW W0 f ts q Xq Mq w sb (gz gK ts q (bE ts q) pick σ) a:=SQ Eq h nC h1 AY (O c) (λn e=>by cases e;exact⟨s,r,tm,hc⟩) pick
end
