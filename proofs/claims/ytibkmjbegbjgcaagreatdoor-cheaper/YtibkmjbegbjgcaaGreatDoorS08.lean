import Derived.Test.YtibkmjbegbjgcaaGreatDoorS07
set_option linter.all false
set_option maxRecDepth 100000
set_option maxHeartbeats 0
namespace Go.Proofs.Zz
open Go.RowKit Go.Shelf Go.Proofs.Tryz
open List renaming length->N,getD->E
open Go.Value renaming slice->Z,int->I,pointer->Y,bool->Qr,agg->Qu
open Go.Proofs.Tryz renaming prog->V
open Option renaming some->O,none->Qs
open Go.IntKind renaming i64->J
open Bool renaming false->F,true->T
open Go renaming World->U,Value->Qm
open Go.World renaming heap->H,setCell->Qo,cell?->Qp
open _root_.Array renaming size->M
open Go.RowKit renaming Hid->Qn
open Go.Obj renaming cells->Qt
open Go.Ending renaming returned->Qv
variable {c:Qm->Array Qm} {L cap gb gr i k lc m mb n qb r sb:Nat} {A A1 B S W0 w:U} {p:Int} {sv v z:Qm} {lo:PN} {aL l row ss xs:Qx} {s:Qz} {ts:Qy af} {e tg ti tm tq:TypeId} {α:Type} {P:Program} {pl:Qy ai}
def lQ(c n:Int):Int:=Int.tmod (if c<0 then -(c+1) else c) n
def nN{c n:Int}(hn:0<n):0<=lQ c n/\lQ c n<n:=by
 unfold lQ;have h:0<=(if c<0 then -(c+1) else c):=by split <;> omega
 exact⟨Int.tmod_nonneg _ h,Int.tmod_lt_of_pos _ hn⟩
def fO{p:Addr}(h:A.cell? p=O v)(hk:Kept (λ_=>True) A B):B.cell? p=O v:=
 (ZX (hk.block _ (ZW h) trivial)).trans h
def BA{A B:U}{p:Addr}{v:Qm}{n:Nat}(h:A.cell? p=O v)(hk:Kept (λb=>b≠n) A B)(hp:p.block≠n):B.cell? p=O v:=
 (ZX (hk.block _ (ZW h) hp)).trans h
structure aH(mb:Nat)(lo:PN)(lc:Nat)(l:Qx)(W:U):Prop where
 num:∃k:Nat,k<=N l/\Qp W (aD mb 1)=O (I J k)
 lst:Qp W (aD mb 0)=O (Z lo (N l) lc)
 thaw:W.frozen? (aD mb 1)=F
 ints:IntsAt W lo l
 off:∀a,lo=O a->a.block≠mb
def aH.keep{mb:Nat}{lo:PN}{lc:Nat}{l:Qx}{A B:U}(h:aH mb lo lc l A)(hk:Kept (λ_=>True) A B):aH mb lo lc l B:=by obtain⟨k,b,d⟩:=h.num;exact⟨⟨k,b,fO d hk⟩,fO h.lst hk,(Xi (a:=(aD mb 1)) (hk.block mb (ZW (p:=(aD mb 0)) h.lst) trivial)).trans h.thaw,⟨h.ints.1,h.ints.2.keep λa f e=>hk.block _ e trivial⟩,h.off⟩
theorem aH.more(h:aH mb lo lc l A)(hk:k<=N l):aH mb lo lc l (Qo A (aD mb 1) (I J k)):=by obtain⟨m,_,f⟩:=h.num;have d:Kept (λb=>b≠mb) A (Qo A (aD mb 1) (I J k)):=⟨rfl,rfl,rfl,by simp[World.setCell],λb _ i=>Below.heap_setCell A _ _ b i⟩;refine⟨⟨k,hk,World.cell?_setCell_same' _ _ _ (by rw[f];rfl)⟩,?_,by rw[World.frozen?_setCell];exact h.thaw,⟨h.ints.1,h.ints.2.keep λa j g=>d.block _ g (h.off a j)⟩,h.off⟩;exact(World.cell?_setCell_other A (aD mb 1) (aD mb 0) (I J k) (λe=>by cases e)).trans h.lst
theorem sM(c n:Int)(w:U)(hn:0<n)(hc:-9223372036854775808<=c/\c<=9223372036854775807) :
  Ce 5 #[I J c,I J n] w (I J (lQ c n)):=by
 have b:¬n=0:=X;by_cases f:c<0
 .have d:wrap64 (c+1)=c+1:=Qg
  have e:wrap64 (-(c+1)) = -(c+1):=Qg;have a:lQ c n = -((c+1).tmod n):=by unfold lQ;rw[Zb f,Int.neg_tmod]
  rw[a];clear a;go_enter func5,ntmps5;go_wp2;go_ret;exact⟨rfl,rfl⟩
 .have a:lQ c n=c % n:=by unfold lQ;grind
  rw[a];clear a;go_enter func5,ntmps5;go_wp2;go_ret;exact⟨rfl,rfl⟩
def Yo(mb:Nat)(lo:PN)(lc:Nat)(l:Qx)(n:Int)(W:U)(hm:aH mb lo lc l W)(hn:0<n)(hl:∀x∈l,-9223372036854775808<=x/\x<=9223372036854775807) :
  Calls V 11 #[Y (O (aD mb 0)),I J n] W λe W'=>∃k:Int,e=Qv (I J k)/\0<=k/\k<n/\aH mb lo lc l W'/\Kept (λb=>b≠mb) W W':=by
 obtain⟨k,hk,m⟩:=hm.num;have r:=hm.lst;have L:=hm.thaw;have C:=hm.ints.1;obtain⟨p,Q⟩:=aS hm hl;clear hm hl;by_cases g:k<N l
 .have t:¬(k:Int) ≥ (N l:Int):=X
  obtain⟨b,R,rfl,q⟩:=p.o.ints.get g;have i:=q k g;have u:=Q.o l[k] (XO g);have D:E l k 0=l[k]:=by simp[List.getD,g]
  rw[D]at i;generalize l[k]=x at*;have v:b≠mb:=p.o.off _ rfl;clear q D;go_enter func11,ntmps11;go_wp2;go_quiet (fail);go_wp2;have a:=aH.more (aH.keep p.o (Xw W nq)) (k:=k+1) X;have d:Kept (λb=>b≠mb) W (Qo (W.drewN nq) (aD mb 1) (I J ((k+1:Nat):Int))):=(Xw W nq).trans ⟨rfl,rfl,rfl,by simp[World.setCell],λb _ hb=>Below.heap_setCell _ _ _ b hb⟩;have y:=BA i d v;obtain⟨K,f⟩:=eX (Qo (W.drewN nq) (aD mb 1) (I J ((k+1:Nat):Int)));have j:Qo (W.drewN nq) (aD mb 1) (I J ((k:Int)+1))=K:=f;rw[f]at a d y;rw[j];obtain⟨k2,_,A⟩:=a.num;have P:Qp K (aD mb 1)=O (I J ((k:Int)+1)):=by rw[<-f];exact World.cell?_setCell_same' _ _ _ (by rw[fO m (Xw W nq)];rfl)
  have NV:=a.lst;obtain⟨B,S⟩:=aS a d;clear a d f j A m r i p;have z:=λW=>sM x n W hn u;go_quiet ((go_at_call 5;exact Calls.quiet_of_same (z _)));go_wp2;go_ret;have G:=nN (c:=x) hn;exact⟨_,rfl,G.1,G.2,aH.keep B.o (Xw _ _),S.o.trans (Xw _ _)⟩
 .have t:(k:Int) ≥ (N l:Int):=X
  go_enter func11,ntmps11;go_wp2;go_quiet (fail);go_wp2;go_ret;exact⟨0,rfl,X,hn,aH.keep p.o (Xw _ _),Xw _ _⟩
def Jo:=@BA
def Jp:=@Yo
def F8:Array Value:=#[I J 0,I J 1,I J 7,I J 20,I J 100,I J 5000,I J 1000000]
def zq:Array Value:=#[I J 1,I J 2,I J 5,I J 10,I J 1000000]
def acv(h:r<7):∃x:Int,F8[r]? = O (I J x)/\0<=x/\x<=1000000:=by
 match r,h with
 |0,_=>exact⟨0,rfl,X,X⟩
 |1,_=>exact⟨1,rfl,X,X⟩
 |2,_=>exact⟨7,rfl,X,X⟩
 |3,_=>exact⟨20,rfl,X,X⟩
 |4,_=>exact⟨100,rfl,X,X⟩
 |5,_=>exact⟨5000,rfl,X,X⟩
 |6,_=>exact⟨1000000,rfl,X,X⟩
def Yp(h:r<5):∃x:Int,zq[r]? = O (I J x)/\1<=x/\x<=1000000:=by
 match r,h with
 |0,_=>exact⟨1,rfl,X,X⟩
 |1,_=>exact⟨2,rfl,X,X⟩
 |2,_=>exact⟨5,rfl,X,X⟩
 |3,_=>exact⟨10,rfl,X,X⟩
 |4,_=>exact⟨1000000,rfl,X,X⟩
def aH.lt(h:aH mb lo lc l A):mb<M (H A):=ZW (p:=(aD mb 0)) h.lst
def aH.alloc{mb:Nat}{lo:PN}{lc:Nat}{l:Qx}{A:U}(h:aH mb lo lc l A)(o:Obj):aH mb lo lc l (A.alloc o):=h.keep (ZT _ _)
theorem aH.set(h:aH mb lo lc l A){G:Nat}(v:Qm)(h1:G≠mb)(h2:∀a,lo=O a->a.block≠G):aH mb lo lc l (Qo A (aD G i) v):=by have d:Kept (λb=>b≠G) A (Qo A (aD G i) v):=Xd _ _ _ (λh=>h rfl);obtain⟨k,e,f⟩:=h.num;exact⟨⟨k,e,Jo f d (Ne.symm h1)⟩,Jo h.lst d (Ne.symm h1),(Xi (a:=(aD mb 1)) (d.block mb h.lt (Ne.symm h1))).trans h.thaw,⟨h.ints.1,h.ints.2.keep λa j g=>d.block _ g (h2 a j)⟩,h.off⟩
structure BB(t:af)(k:Nat):Prop where
 c1:1<=t.aL
 c3:t.aL<=3
 r0:0<=t.rows
 r1:t.rows<=1000000
 kd:∀m,m<k->1<=t.kd m/\t.kd m<=1000000
 kz:(k<=0->t.k0=0)/\(k<=1->t.k1=0)/\(k<=2->t.k2=0)/\t.k3=0
def TA(mb:Nat)(lo:PN)(lc:Nat)(l:Qx)(W:U)(hm:aH mb lo lc l W)(hl:∀x∈l,-9223372036854775808<=x/\x<=9223372036854775807)(hlo:∀a,lo=O a->a.block<M (H W)) :
  Calls V 12 #[Y (O (aD mb 0))] W λe W'=>∃t:af,e=Qv (Qu t.vals)/\BB t t.aL.toNat/\aH mb lo lc l W'/\Kept (λb=>b≠mb) W W':=by
 have bT:=hm.lt;have ah:=hm.alloc (Qt tz.vals 48);have ai:=GB.alloc W tz.vals 48;have aj:Kept (λb=>b≠mb) W (W.alloc (Qt tz.vals 48)):=ZT _ _;obtain⟨W1,K⟩:=eX (W.alloc (Qt tz.vals 48));rw[K]at ah ai aj;have aM:M (H W1)=M (H W)+1:=by rw[<-K];simp
 have aN:=Jp mb lo lc l 3 W1 ah X hl;have bP:W.alloc (Qt #[I J 0,I J 0,I J 0,I J 0,I J 0,I J 0] 48)=W1:=K;obtain⟨HL,sK,oI⟩:=jX hl hlo aM;go_enter func12,ntmps12;go_wp2_with fail;refine aN.mono ?_;rintro e g ⟨r,rfl,cz,bQ,aG,L⟩;have TC:=aj.trans L;have j:M (H W)≠mb:=X;have aO:=ai.keep L j;have bU:wrap64 (1+r)=1+r:=Qg;have bV:=L.size;have F9:=(aG.alloc (Qt #[I J (1+r),I J 0,I J 0,I J 0,I J 0,I J 0] 48)).alloc (Qt F8 3);have ak:=Jp mb lo lc l 7 _ F9 X HL.o;have au:GB ((g.alloc (Qt #[I J (1+r),I J 0,I J 0,I J 0,I J 0,I J 0] 48)).alloc (Qt F8 3)) (M (H g)) 48 #[I J (1+r),I J 0,I J 0,I J 0,I J 0,I J 0]:=
  (GB.alloc _ _ _).keep (ZT (s:=λ_=>True) _ _) trivial
 have av:GB ((g.alloc (Qt #[I J (1+r),I J 0,I J 0,I J 0,I J 0,I J 0] 48)).alloc (Qt F8 3)) (M (H g)+1) 3 F8:=by
  have:=GB.alloc (g.alloc (Qt #[I J (1+r),I J 0,I J 0,I J 0,I J 0,I J 0] 48)) F8 3
  rwa [Xo]at this
 have C:∀s,Kept s g ((g.alloc (Qt #[I J (1+r),I J 0,I J 0,I J 0,I J 0,I J 0] 48)).alloc (Qt F8 3)):=λs=>(ZT _ _).trans (ZT _ _);have ax:=aO.keep (C (λ_=>True)) trivial;have bW:=aG.lt;obtain⟨W3,aI⟩:=eX ((g.alloc (Qt #[I J (1+r),I J 0,I J 0,I J 0,I J 0,I J 0] 48)).alloc (Qt F8 3));rw[aI]at ak au av ax C;unfold F8 at aI;go_wp2_with fail;refine ak.mono ?_;rintro e W4 ⟨r2,rfl,cK,bR,bH,A⟩;obtain⟨rn,rfl⟩:∃rn:Nat,r2=(rn:Int):=⟨r2.toNat,X⟩;have aP:rn<7:=X;have z:M (H g)≠mb:=X;have D:=au.keep A z;have aQ:=av.keep A (show M (H g)+1≠mb by omega);have p:=ax.keep A j;have aR:=(TC.trans (C _)).trans A;obtain⟨x,hx,bI,bJ⟩:=acv aP;have bX:=(aQ.cell rn).trans hx;have aT:=D.cell 1;have bY:=D.frozen 1;simp only[List.getElem?_toArray,List.getElem?_cons_succ,List.getElem?_cons_zero]at aT;have aU:GB (Qo W4 (aD (M (H g)) 1) (I J x)) (M (H g)) 48 (⟨1+r,x,0,0,0,0⟩:af).vals:=D.set 1 _;have Lx:=bH.set (i:=1) (I J x) z (λa ha=>Ql (sK.o a ha) TC.size);have aV:Kept (λb=>b≠mb) W (Qo W4 (aD (M (H g)) 1) (I J x)):=aR.bS TC.size _;have Kj:GB (Qo W4 (aD (M (H g)) 1) (I J x)) (M (H W)) 48 tz.vals:=p.keep (s:=λb=>b≠M (H g)) (Xd _ _ _ (λh=>h rfl)) (Qk oI.o);have Eo:Qn _:=aU;obtain⟨TD,bK⟩:=aS Lx aV;have mF:Qn _:=Kj;have TE:=Zh TC;go_wp2;go_loopw [4] (λi wr=>∃(k:Nat) (t:af),i=I J k/\(k:Int)<=t.aL/\BB t k/\GB wr (M (H g)) 48 t.vals/\GB wr (M (H W)) 48 tz.vals/\aH mb lo lc l wr/\Kept (λb=>b≠mb) W wr) (λi wr=>10-(intOf i).toNat)
 case atStart=>exact⟨0,⟨1+r,x,0,0,0,0⟩,rfl,by show (0:Int)<=1+r;omega,⟨by show 1<=1+r;omega,by show 1+r<=3;omega,bI,bJ,λm h=>X,λ_=>rfl,λ_=>rfl,λ_=>rfl,rfl⟩,Eo.o,mF.o,TD.o,bK.o⟩
 case round=>
  obtain⟨k,⟨aL,d,u,v,k2,k3⟩,rfl,bL,hT,n,p,B,P⟩:=hrel;have c0:=n.cell 0;have aW:(⟨aL,d,u,v,k2,k3⟩:af).vals[0]? = O (I J aL):=rfl;rw[aW]at c0;simp only at bL;have aX:=hT.c3;simp only at aX;by_cases df:(k:Int)<aL
  .have aY:k=0∨k=1∨k=2:=X
   have LA:=B.alloc (Qt zq 3);have ay:=Jp mb lo lc l 5 _ LA X HL.o;have az:=n.keep (ZT (s:=λ_=>True) wr (Qt zq 3)) trivial;have aA:=GB.alloc wr zq 3;have aB:=p.keep (ZT (s:=λ_=>True) wr (Qt zq 3)) trivial;have qL:=P.trans (ZT (s:=λb=>b≠mb) wr (Qt zq 3));have bZ:=B.lt;obtain⟨W6,aJ⟩:=eX (wr.alloc (Qt zq 3));rw[aJ]at ay az aA aB qL;unfold zq at aJ;go_wp2_with fail;refine ay.mono ?_;rintro e W7 ⟨r3,rfl,cO,cZ,TG,lZ⟩;obtain⟨aK,rfl⟩:∃rn:Nat,r3=(rn:Int):=⟨r3.toNat,X⟩;have aZ:aK<5:=X;obtain⟨y,hy,Q,R⟩:=Yp aZ;have q:=az.keep lZ z;have cu:=((aA.keep lZ (show M (H wr)≠mb by omega)).cell aK).trans hy;have bf:=aB.keep lZ j;have bg:=qL.trans lZ;have d0:=q.cell 2;have d1:=q.cell 3;have d2:=q.cell 4;have e0:=q.frozen 2;have e1:=q.frozen 3;have e2:=q.frozen 4;have bn:=λi=>TG.set (G:=M (H g)) (i:=i) (I J y) z (λa ha=>Ql (sK.o a ha) TE.o.size);have bq:=λi=>bg.bS (G:=M (H g)) (i:=i) TE.o.size (I J y);have bu:=λi=>bf.keep (s:=λb=>b≠M (H g)) (Xd W7 (aD (M (H g)) i) (I J y) (λh=>h rfl)) (Qk oI.o);have bz:=λi=>q.set i (I J y);have f0:(⟨aL,d,u,v,k2,k3⟩:af).vals[2]? = O (I J u):=rfl;have f1:(⟨aL,d,u,v,k2,k3⟩:af).vals[3]? = O (I J v):=rfl;have f2:(⟨aL,d,u,v,k2,k3⟩:af).vals[4]? = O (I J k2):=rfl;rw[f0]at d0;rw[f1]at d1;rw[f2]at d2;obtain⟨S,aa,ae,ag,f⟩:=EI bz bu bn bq hT;rcases aY with rfl|rfl|rfl
   .go_wp2;go_roundw
    case rel=>exact⟨1,⟨aL,d,y,v,k2,k3⟩,rfl,by show (1:Int)<=aL;omega,⟨f.o.c1,f.o.c3,f.o.r0,f.o.r1,λm hm=>by match m,hm with|0,_=>exact⟨Q,R⟩,λh=>X,λ_=>f.o.kz.2.1 X,λ_=>f.o.kz.2.2.1 X,f.o.kz.2.2.2⟩,S.o 2,aa.o 2,ae.o 2,ag.o 2⟩
    case measure=>simp[intOf]
   .go_wp2;go_roundw
    case rel=>exact⟨2,⟨aL,d,u,y,k2,k3⟩,rfl,by show (2:Int)<=aL;omega,⟨f.o.c1,f.o.c3,f.o.r0,f.o.r1,λm hm=>by
     match m,hm with
     |0,_=>exact f.o.kd 0 X
     |1,_=>exact⟨Q,R⟩,λh=>X,λh=>X,λ_=>f.o.kz.2.2.1 X,f.o.kz.2.2.2⟩,S.o 3,aa.o 3,ae.o 3,ag.o 3⟩
    case measure=>simp[intOf]
   .go_wp2;go_roundw
    case rel=>exact⟨3,⟨aL,d,u,v,y,k3⟩,rfl,by show (3:Int)<=aL;omega,⟨f.o.c1,f.o.c3,f.o.r0,f.o.r1,λm hm=>by
     match m,hm with
     |0,_=>exact f.o.kd 0 X
     |1,_=>exact f.o.kd 1 X
     |2,_=>exact⟨Q,R⟩,λh=>X,λh=>X,λh=>X,f.o.kz.2.2.2⟩,S.o 4,aa.o 4,ae.o 4,ag.o 4⟩
    case measure=>simp[intOf]
  .have aC:aL=(k:Int):=X
   have g0:=n.cell 0;have g1:=n.cell 1;have g2:=n.cell 2;have g3:=n.cell 3;have g4:=n.cell 4;have g5:=n.cell 5;have r0:=p.cell 0;have bA:=p.cell 1;have bB:=p.cell 2;have bC:=p.cell 3;have bD:=p.cell 4;have bE:=p.cell 5;have z0:=p.frozen 0;have z1:=p.frozen 1;have z2:=p.frozen 2;have z3:=p.frozen 3;have z4:=p.frozen 4;have z5:=p.frozen 5;simp only[af.vals,tz,List.getElem?_toArray,List.getElem?_cons_succ,List.getElem?_cons_zero]at g0 g1 g2 g3 g4 g5 r0 bA bB bC bD bE;obtain⟨f,bM,bN,bO⟩:=sU hT B P aC;have bF:Qn _:=p;clear n p hT B P aC c0;have aF:GB (Qo (Qo (Qo (Qo (Qo (Qo wr (aD (M (H W)) 0) (I J aL)) (aD (M (H W)) 1) (I J d)) (aD (M (H W)) 2) (I J u)) (aD (M (H W)) 3) (I J v)) (aD (M (H W)) 4) (I J k2)) (aD (M (H W)) 5) (I J k3)) (M (H W)) 48 (⟨aL,d,u,v,k2,k3⟩:af).vals:=
    (((((GB.set bF.o 0 _).set 1 _).set 2 _).set 3 _).set 4 _).set 5 _
   have bG:Qn _:=aF;clear aF;go_wp2;refine X8 (Jr rfl _ _ (M (H W)) 48 (⟨aL,d,u,v,k2,k3⟩:af).vals (0,0) _ rfl bG.o underlying48 rfl Qd) rfl ?_;have TH:∀a,lo=O a->a.block≠M (H W):=λa ha=>Qk (sK.o a ha);refine⟨⟨aL,d,u,v,k2,k3⟩,rfl,?_,?_,?_⟩
   .have:aL.toNat=k:=Qk bO.o
    show BB _ aL.toNat;rw[this];exact f.o
   .exact(((((aH.set bM.o _ j TH).set _ j TH).set _ j TH).set _ j TH).set _ j TH).set _ j TH
   .exact(((((Kept.bS bN.o (Za _) _).bS (Za _) _).bS (Za _) _).bS (Za _) _).bS (Za _) _).bS (Za _) _
def aA.arr(c:aA):Array Value:=#[Qr c.not,I J c.op,I J c.left,Qr c.const,I J c.right]
structure aqV(W:U)(G:Nat)(c:aA):Prop where
 c0:Qp W (aD G 0)=O (Qr c.not)
 c1:Qp W (aD G 1)=O (I J c.op)
 c2:Qp W (aD G 2)=O (I J c.left)
 c3:Qp W (aD G 3)=O (Qr c.const)
 c4:Qp W (aD G 4)=O (I J c.right)
 f0:W.frozen? (aD G 0)=F
 f1:W.frozen? (aD G 1)=F
 f2:W.frozen? (aD G 2)=F
 f3:W.frozen? (aD G 3)=F
 f4:W.frozen? (aD G 4)=F
def GB.five{W:U}{G:Nat}{t:TypeId}{c:aA}(h:GB W G t c.arr):aqV W G c:=
 ⟨h.cell 0,h.cell 1,h.cell 2,h.cell 3,h.cell 4,h.frozen 0,h.frozen 1,h.frozen 2,h.frozen 3,h.frozen 4⟩
def TI(mb:Nat)(lo:PN)(lc:Nat)(l:Qx)(W:U)(hm:aH mb lo lc l W)(hl:∀x∈l,-9223372036854775808<=x/\x<=9223372036854775807) :
  Calls V 14 #[Y (O (aD mb 0))] W λe W'=>∃v:Int,e=Qv (I J v)/\(v=1073741824∨(-1<=v/\v<=3))/\aH mb lo lc l W'/\Kept (λb=>b≠mb) W W':=by
 have g:=Jp mb lo lc l 6 W hm X hl;go_enter func14,ntmps14;go_wp2_with fail;refine g.mono ?_;rintro e q ⟨a,rfl,n,j,d,f⟩;by_cases k:a=5
 .have i:(a==5)=true:=by simpa using k
  go_wp2;go_ret;exact⟨_,rfl,.inl rfl,d,f⟩
 .have i:(a==5)=false:=by simpa using k
  have p:wrap64 (a-1)=a-1:=Qg;have m:Qn (-1<=a-1/\a-1<=3):=show _/\_ by omega
  go_wp2;go_ret;exact⟨_,rfl,.inr m.o,d,f⟩
def Kk(mb:Nat)(lo:PN)(lc:Nat)(l:Qx)(n:Int)(W:U)(hm:aH mb lo lc l W)(hl:∀x∈l,-9223372036854775808<=x/\x<=9223372036854775807)(hlo:∀a,lo=O a->a.block<M (H W))(hn:0<n) :
  Calls V 22 #[Y (O (aD mb 0)),I J n] W λe W'=>∃c:aA,e=Qv (Qu c.arr)/\ek c n=T/\aH mb lo lc l W'/\Kept (λb=>b≠mb) W W':=by
 have aX:=hm.lt;have ax:=hm.alloc (Qt cz.arr 66);have ay:=GB.alloc W cz.arr 66;have az:Kept (λb=>b≠mb) W (W.alloc (Qt cz.arr 66)):=ZT _ _;obtain⟨W1,aj⟩:=eX (W.alloc (Qt cz.arr 66));rw[aj]at ax ay az;have oI:Qn (M (H W1)=M (H W)+1):=show _=_ by rw[<-aj];simp
 have aM:=Jp mb lo lc l 5 W1 ax X hl;have aV:W.alloc (Qt #[Qr F,I J 0,I J 0,Qr F,I J 0] 66)=W1:=aj;obtain⟨HL,sK⟩:=aS hl hlo;have p:M (H W)≠mb:=X;go_enter func22,ntmps22;go_wp2_with fail;refine aM.mono ?_;rintro e W2 ⟨r1,rfl,bg,aW,aU,ak⟩;have aN:=Jp mb lo lc l n W2 aU hn HL.o;obtain⟨g,bn⟩:∃g,(r1==1)=g:=⟨_,rfl⟩;go_wp2_with fail;refine aN.mono ?_;rintro e d ⟨j,rfl,bq,bu,F9,au⟩;have aY:=ak.size;have aZ:=au.size;have ML:=(az.trans ak).trans au;have aO:=(ay.keep ak p).keep au p;have aB:=F9.alloc (Qt (⟨g,0,j,F,0⟩:aA).arr 66);have aC:=GB.alloc d (⟨g,0,j,F,0⟩:aA).arr 66;have aF:=aO.keep (ZT (s:=λ_=>True) d (Qt (⟨g,0,j,F,0⟩:aA).arr 66)) trivial;have aG:=ML.trans (ZT (s:=λb=>b≠mb) d (Qt (⟨g,0,j,F,0⟩:aA).arr 66));obtain⟨W4,aL⟩:=eX (d.alloc (Qt (⟨g,0,j,F,0⟩:aA).arr 66));rw[aL]at aB aC aF aG;have aP:=Jp mb lo lc l 6 W4 aB X HL.o;have aI:d.alloc (Qt #[Qr g,I J 0,I J j,Qr F,I J 0] 66)=W4:=aL;have m:M (H d)≠mb:=Qk F9.lt;have r:Qn (M (H W)<=M (H d)/\M (H W)≠M (H d)):=show _/\_ by have:=oI.o;omega
 have aQ:=Zh aI;clear aI;go_wp2_with fail;rw[aQ.o];refine aP.mono ?_;rintro e S ⟨r3,rfl,bz,bA,Lx,av⟩;have A:=aC.keep av m;have Kj:=aF.keep av p;have TJ:=aG.trans av;have aJ:∀a,lo=O a->a.block≠M (H d):=λa ha=>Ql (sK.o a ha) r.o;have aK:∀a,lo=O a->a.block≠M (H W):=λa ha=>Qk (sK.o a ha);obtain⟨Kl,Yr⟩:=aS aJ aK;have y:Qn (∀(Wx:U) (c:aA),GB Wx (M (H W)) 66 cz.arr->aH mb lo lc l Wx->Kept (λb=>b≠mb) W Wx->
   GB (Qo (Qo (Qo (Qo (Qo Wx (aD (M (H W)) 0) (Qr c.not)) (aD (M (H W)) 1) (I J c.op)) (aD (M (H W)) 2) (I J c.left)) (aD (M (H W)) 3) (Qr c.const)) (aD (M (H W)) 4) (I J c.right)) (M (H W)) 66 c.arr/\
   aH mb lo lc l (Qo (Qo (Qo (Qo (Qo Wx (aD (M (H W)) 0) (Qr c.not)) (aD (M (H W)) 1) (I J c.op)) (aD (M (H W)) 2) (I J c.left)) (aD (M (H W)) 3) (Qr c.const)) (aD (M (H W)) 4) (I J c.right))/\
   Kept (λb=>b≠mb) W (Qo (Qo (Qo (Qo (Qo Wx (aD (M (H W)) 0) (Qr c.not)) (aD (M (H W)) 1) (I J c.op)) (aD (M (H W)) 2) (I J c.left)) (aD (M (H W)) 3) (Qr c.const)) (aD (M (H W)) 4) (I J c.right))):=λWx c hG hM hK=>
  ⟨((((hG.set 0 _).set 1 _).set 2 _).set 3 _).set 4 _,((((hM.set _ p Yr.o).set _ p Yr.o).set _ p Yr.o).set _ p Yr.o).set _ p Yr.o,
   ((((hK.bS (Za _) _).bS (Za _) _).bS (Za _) _).bS (Za _) _).bS (Za _) _⟩
 have U0:r3=0∨r3=1∨r3=2∨r3=3∨r3=4∨r3=5:=X;rcases U0 with rfl|rfl|rfl|rfl|rfl|rfl
 .have P:=Jp mb lo lc l n S Lx hn HL.o;go_wp2_with fail;refine P.mono ?_;rintro e W6 ⟨f,rfl,aa,ae,L,t⟩;have B:=A.keep t m;have Q:=(GB.five B).c4;have p4:=(GB.five B).f4;have Yt:GB (Qo W6 (aD (M (H d)) 4) (I J f)) (M (H d)) 66 (⟨g,0,j,F,f⟩:aA).arr:=B.set 4 _;have Di:GB (Qo W6 (aD (M (H d)) 4) (I J f)) (M (H W)) 66 cz.arr:=(Kj.keep t p).keep (s:=λb=>b≠M (H d)) (Xd _ _ _ (λh=>h rfl)) r.o.2;have R:=L.set (G:=M (H d)) (i:=4) (I J f) m Kl.o;have z:=(TJ.trans t).bS (G:=M (H d)) (i:=4) r.o.1 (I J f);have C:Qn (ek ⟨g,0,j,F,f⟩ n=T):=show _=_ by simp[ek];try omega
  simp only at Q;have k:=y.o _ (⟨g,0,j,F,f⟩:aA) Di R z;have q:=Zh k;have v:=GB.five Yt;have v0:=v.c0;have D:=v.c1;have K:=v.c2;have v3:=v.c3;have v4:=v.c4;have u:=GB.five Di;have u0:=u.c0;have u1:=u.c1;have u2:=u.c2;have u3:=u.c3;have u4:=u.c4;have z0:=u.f0;have z1:=u.f1;have z2:=u.f2;have z3:=u.f3;have z4:=u.f4;simp only[cz]at v0 D K v3 v4 u0 u1 u2 u3 u4;go_wp2;refine X8 (Jr rfl _ _ (M (H W)) 66 (⟨g,0,j,F,f⟩:aA).arr (0,0) _ rfl q.o.1 underlying66 rfl Qd) rfl ?_;exact⟨(⟨g,0,j,F,f⟩:aA),rfl,C.o,q.o.2.1,q.o.2.2⟩
 .have P:=Jp mb lo lc l n S Lx hn HL.o;go_wp2_with fail;refine P.mono ?_;rintro e W6 ⟨f,rfl,aa,ae,L,t⟩;have B:=A.keep t m;have Q:=(GB.five B).c4;have p4:=(GB.five B).f4;have Yt:GB (Qo W6 (aD (M (H d)) 4) (I J f)) (M (H d)) 66 (⟨g,0,j,F,f⟩:aA).arr:=B.set 4 _;have Di:GB (Qo W6 (aD (M (H d)) 4) (I J f)) (M (H W)) 66 cz.arr:=(Kj.keep t p).keep (s:=λb=>b≠M (H d)) (Xd _ _ _ (λh=>h rfl)) r.o.2;have R:=L.set (G:=M (H d)) (i:=4) (I J f) m Kl.o;have z:=(TJ.trans t).bS (G:=M (H d)) (i:=4) r.o.1 (I J f);have C:Qn (ek ⟨g,0,j,F,f⟩ n=T):=show _=_ by simp[ek];try omega
  simp only at Q;have k:=y.o _ (⟨g,0,j,F,f⟩:aA) Di R z;have q:=Zh k;have v:=GB.five Yt;have v0:=v.c0;have D:=v.c1;have K:=v.c2;have v3:=v.c3;have v4:=v.c4;have u:=GB.five Di;have u0:=u.c0;have u1:=u.c1;have u2:=u.c2;have u3:=u.c3;have u4:=u.c4;have z0:=u.f0;have z1:=u.f1;have z2:=u.f2;have z3:=u.f3;have z4:=u.f4;simp only[cz]at v0 D K v3 v4 u0 u1 u2 u3 u4;go_wp2;refine X8 (Jr rfl _ _ (M (H W)) 66 (⟨g,0,j,F,f⟩:aA).arr (0,0) _ rfl q.o.1 underlying66 rfl Qd) rfl ?_;exact⟨(⟨g,0,j,F,f⟩:aA),rfl,C.o,q.o.2.1,q.o.2.2⟩
 .have P:=Jp mb lo lc l n S Lx hn HL.o;go_wp2_with fail;refine P.mono ?_;rintro e W6 ⟨f,rfl,aa,ae,L,t⟩;have B:=A.keep t m;have Q:=(GB.five B).c4;have p4:=(GB.five B).f4;have Yt:GB (Qo W6 (aD (M (H d)) 4) (I J f)) (M (H d)) 66 (⟨g,0,j,F,f⟩:aA).arr:=B.set 4 _;have Di:GB (Qo W6 (aD (M (H d)) 4) (I J f)) (M (H W)) 66 cz.arr:=(Kj.keep t p).keep (s:=λb=>b≠M (H d)) (Xd _ _ _ (λh=>h rfl)) r.o.2;have R:=L.set (G:=M (H d)) (i:=4) (I J f) m Kl.o;have z:=(TJ.trans t).bS (G:=M (H d)) (i:=4) r.o.1 (I J f);have C:Qn (ek ⟨g,0,j,F,f⟩ n=T):=show _=_ by simp[ek];try omega
  simp only at Q;have k:=y.o _ (⟨g,0,j,F,f⟩:aA) Di R z;have q:=Zh k;have v:=GB.five Yt;have v0:=v.c0;have D:=v.c1;have K:=v.c2;have v3:=v.c3;have v4:=v.c4;have u:=GB.five Di;have u0:=u.c0;have u1:=u.c1;have u2:=u.c2;have u3:=u.c3;have u4:=u.c4;have z0:=u.f0;have z1:=u.f1;have z2:=u.f2;have z3:=u.f3;have z4:=u.f4;simp only[cz]at v0 D K v3 v4 u0 u1 u2 u3 u4;go_wp2;refine X8 (Jr rfl _ _ (M (H W)) 66 (⟨g,0,j,F,f⟩:aA).arr (0,0) _ rfl q.o.1 underlying66 rfl Qd) rfl ?_;exact⟨(⟨g,0,j,F,f⟩:aA),rfl,C.o,q.o.2.1,q.o.2.2⟩
 .have aR:=(GB.five A).c3;have bf:=(GB.five A).f3;have Yu:GB (Qo S (aD (M (H d)) 3) (Qr T)) (M (H d)) 66 (⟨g,0,j,T,0⟩:aA).arr:=A.set 3 _;have Km:GB (Qo S (aD (M (H d)) 3) (Qr T)) (M (H W)) 66 cz.arr:=Kj.keep (s:=λb=>b≠M (H d)) (Xd _ _ _ (λh=>h rfl)) r.o.2;have L:=Lx.set (G:=M (H d)) (i:=3) (Qr T) m Kl.o;have t:=TJ.bS (G:=M (H d)) (i:=3) r.o.1 (Qr T);have P:=Jp mb lo lc l 5 _ L X HL.o;simp only at aR;go_wp2_with fail;refine P.mono ?_;rintro e W7 ⟨f,rfl,aa,ae,R,z⟩;have hw:wrap64 (f-1)=f-1:=Qg
  have g7:=Yu.keep z m;have Q:=(GB.five g7).c4;have p4:=(GB.five g7).f4;have af:GB (Qo W7 (aD (M (H d)) 4) (I J (f-1))) (M (H d)) 66 (⟨g,0,j,T,f-1⟩:aA).arr:=g7.set 4 _;have Kn:GB (Qo W7 (aD (M (H d)) 4) (I J (f-1))) (M (H W)) 66 cz.arr:=(Km.keep z p).keep (s:=λb=>b≠M (H d)) (Xd _ _ _ (λh=>h rfl)) r.o.2;have ag:=R.set (G:=M (H d)) (i:=4) (I J (f-1)) m Kl.o;have ah:=(t.trans z).bS (G:=M (H d)) (i:=4) r.o.1 (I J (f-1));have C:Qn (ek ⟨g,0,j,T,f-1⟩ n=T):=show _=_ by simp[ek];try omega
  simp only at Q;have k:=y.o _ (⟨g,0,j,T,(f-1)⟩:aA) Kn ag ah;have q:=Zh k;have v:=GB.five af;have v0:=v.c0;have D:=v.c1;have K:=v.c2;have v3:=v.c3;have v4:=v.c4;have u:=GB.five Kn;have u0:=u.c0;have u1:=u.c1;have u2:=u.c2;have u3:=u.c3;have u4:=u.c4;have z0:=u.f0;have z1:=u.f1;have z2:=u.f2;have z3:=u.f3;have z4:=u.f4;simp only[cz]at v0 D K v3 v4 u0 u1 u2 u3 u4;go_wp2;refine X8 (Jr rfl _ _ (M (H W)) 66 (⟨g,0,j,T,(f-1)⟩:aA).arr (0,0) _ rfl q.o.1 underlying66 rfl Qd) rfl ?_;exact⟨(⟨g,0,j,T,(f-1)⟩:aA),rfl,C.o,q.o.2.1,q.o.2.2⟩
 .have ai:=(GB.five A).c1;have aT:=(GB.five A).f1;have Yu:GB (Qo S (aD (M (H d)) 1) (I J 1)) (M (H d)) 66 (⟨g,1,j,F,0⟩:aA).arr:=A.set 1 _;have Km:GB (Qo S (aD (M (H d)) 1) (I J 1)) (M (H W)) 66 cz.arr:=Kj.keep (s:=λb=>b≠M (H d)) (Xd _ _ _ (λh=>h rfl)) r.o.2;have L:=Lx.set (G:=M (H d)) (i:=1) (I J 1) m Kl.o;have t:=TJ.bS (G:=M (H d)) (i:=1) r.o.1 (I J 1);have P:=Jp mb lo lc l n _ L hn HL.o;simp only at ai;go_wp2_with fail;refine P.mono ?_;rintro e W7 ⟨f,rfl,aa,ae,R,z⟩;have g7:=Yu.keep z m;have Q:=(GB.five g7).c4;have p4:=(GB.five g7).f4;have af:GB (Qo W7 (aD (M (H d)) 4) (I J f)) (M (H d)) 66 (⟨g,1,j,F,f⟩:aA).arr:=g7.set 4 _;have Kn:GB (Qo W7 (aD (M (H d)) 4) (I J f)) (M (H W)) 66 cz.arr:=(Km.keep z p).keep (s:=λb=>b≠M (H d)) (Xd _ _ _ (λh=>h rfl)) r.o.2;have ag:=R.set (G:=M (H d)) (i:=4) (I J f) m Kl.o;have ah:=(t.trans z).bS (G:=M (H d)) (i:=4) r.o.1 (I J f);have C:Qn (ek ⟨g,1,j,F,f⟩ n=T):=show _=_ by simp[ek];try omega
  simp only at Q;have k:=y.o _ (⟨g,1,j,F,f⟩:aA) Kn ag ah;have q:=Zh k;have v:=GB.five af;have v0:=v.c0;have D:=v.c1;have K:=v.c2;have v3:=v.c3;have v4:=v.c4;have u:=GB.five Kn;have u0:=u.c0;have u1:=u.c1;have u2:=u.c2;have u3:=u.c3;have u4:=u.c4;have z0:=u.f0;have z1:=u.f1;have z2:=u.f2;have z3:=u.f3;have z4:=u.f4;simp only[cz]at v0 D K v3 v4 u0 u1 u2 u3 u4;go_wp2;refine X8 (Jr rfl _ _ (M (H W)) 66 (⟨g,1,j,F,f⟩:aA).arr (0,0) _ rfl q.o.1 underlying66 rfl Qd) rfl ?_;exact⟨(⟨g,1,j,F,f⟩:aA),rfl,C.o,q.o.2.1,q.o.2.2⟩
 .have ai:=(GB.five A).c1;have aT:=(GB.five A).f1;have Yu:GB (Qo S (aD (M (H d)) 1) (I J 2)) (M (H d)) 66 (⟨g,2,j,F,0⟩:aA).arr:=A.set 1 _;have Km:GB (Qo S (aD (M (H d)) 1) (I J 2)) (M (H W)) 66 cz.arr:=Kj.keep (s:=λb=>b≠M (H d)) (Xd _ _ _ (λh=>h rfl)) r.o.2;have L:=Lx.set (G:=M (H d)) (i:=1) (I J 2) m Kl.o;have t:=TJ.bS (G:=M (H d)) (i:=1) r.o.1 (I J 2);have C:Qn (ek ⟨g,2,j,F,0⟩ n=T):=show _=_ by simp[ek];try omega
  simp only at ai;have k:=y.o _ (⟨g,2,j,F,0⟩:aA) Km L t;have q:=Zh k;have v:=GB.five Yu;have v0:=v.c0;have D:=v.c1;have K:=v.c2;have v3:=v.c3;have v4:=v.c4;have u:=GB.five Km;have u0:=u.c0;have u1:=u.c1;have u2:=u.c2;have u3:=u.c3;have u4:=u.c4;have z0:=u.f0;have z1:=u.f1;have z2:=u.f2;have z3:=u.f3;have z4:=u.f4;simp only[cz]at v0 D K v3 v4 u0 u1 u2 u3 u4;go_wp2;refine X8 (Jr rfl _ _ (M (H W)) 66 (⟨g,2,j,F,0⟩:aA).arr (0,0) _ rfl q.o.1 underlying66 rfl Qd) rfl ?_;exact⟨(⟨g,2,j,F,0⟩:aA),rfl,C.o,q.o.2.1,q.o.2.2⟩
def Js:=@GB.five
def xA{n:Int}(h:bP xs n=T)(h0:0<=p)(h1:p<n):bP (xs++[p]) n=true:=by unfold bP at*;rw[List.all_append,h];simp[h0,h1]
def any_succ(hk:k<N xs):((xs.take (k+1)).any λx=>x==p)=(((xs.take k).any λx=>x==p) ||(E xs k 0==p)):=by rw[Q4 hk,List.any_append];simp[List.getD,hk]
theorem NW(h:di xs=T)(hp:(xs.any λx=>x==p)=F):di (xs++[p])=true:=by
 unfold di at*;rw[Zf]at*;intro i e j f;rw[ZG,Jt]at e;have b:∀m,m<N xs->E (xs++[p]) m 0=E xs m 0:=λm g=>Qb;by_cases d:i<N xs
 .rw[b i d,b j X];exact h i d j f
 .have a:i=N xs:=X
  subst a;grind
def aH.grown{mb:Nat}{lo:PN}{lc:Nat}{l:Qx}{A B:U}(h:aH mb lo lc l A){row:Option Nat}(hg:A.grownBy B row)(h1:row≠O mb)(h2:∀a,lo=O a->row≠O a.block):aH mb lo lc l B:=by have d:Kept (λb=>row≠O b) A B:=Xe hg (λr e h=>h e);obtain⟨k,f,g⟩:=h.num;exact⟨⟨k,f,Xa g d h1⟩,Xa h.lst d h1,(Xi (a:=(aD mb 1)) (d.block mb h.lt h1)).trans h.thaw,⟨h.ints.1,h.ints.2.keep λa j i=>d.block _ i (h2 a j)⟩,h.off⟩
def uX(mb:Nat)(lo:PN)(lc:Nat)(l:Qx)(n:Int)(most:Nat)(W:U)(hm:aH mb lo lc l W)(hl:∀x∈l,-9223372036854775808<=x/\x<=9223372036854775807)(hlo:∀a,lo=O a->a.block<M (H W))(hn:0<n)(hmo:most<=100) :
  Calls V 23 #[Y (O (aD mb 0)),I J n,I J most] W λe W'=>∃(v:Qm) (xs:Qx),e=Qv v/\W'.ownsRow (M (H W)) 3 1 v (N xs) (xs.map (Value.int J))/\bP xs n=T/\di xs=T/\N xs<=most/\aH mb lo lc l W'/\Kept (λb=>b≠mb) W W':=by
 obtain⟨i0,hi,ak,au,av⟩:=Xl Tryz.kE;have aC:=hm.lt;have G:=Jp mb lo lc l ((most:Int)+1) W hm X hl;have af:wrap64 ((most:Int)+1)=(most:Int)+1:=Qg;obtain⟨HL,sK⟩:=aS hl hlo;clear hl hlo hm;go_enter func23,ntmps23;go_wp2_with fail;refine G.mono ?_;rintro e W2 ⟨r1,rfl,aI,aB,R,S⟩;obtain⟨k1,rfl⟩:∃k:Nat,r1=(k:Int):=⟨r1.toNat,X⟩;clear G af;go_wp2;go_loopw [7,8] (λv i wr=>∃(k:Nat) (xs:Qx),i=I J k/\N xs+k<=most/\wr.ownsRow (M (H W)) 3 1 v (N xs) (xs.map (Value.int J))/\Qn (bP xs n=T/\di xs=T)/\aH mb lo lc l wr/\Kept (λb=>b≠mb) W wr) (λ_ i _=>(intOf i).toNat)
 case atStart=>exact⟨k1,[],rfl,Qj,Xm _ _ _ _,⟨rfl,rfl⟩,R,S⟩
 case round=>
  obtain⟨k,xs,rfl,aJ,q,A,hM,hK⟩:=hrel;clear R S;by_cases h0:0<k
  .skip;have K:=Jp mb lo lc l n wr hM hn HL.o;go_wp2_with fail;refine K.mono ?_;rintro e W3 ⟨p,rfl,ax,ay,F9,aa⟩;clear K;have d:=Xf q aa (λg hg=>Qk ((Xg q hg).1));have D:=hK.trans aa;obtain⟨iv,oW,oq,jT,-⟩:=kF d X;obtain⟨mh,eQ,B⟩:=iv;simp only at oq;subst oq;unfold ah.val at oW;simp only at oW;subst oW;have z:=jT.1;have HI:Qn _:=z;clear q hM hK jT z;go_wp2;go_loopw [10,11] (λtw i ws=>∃(m:Nat),m<=N B/\i=I J m/\tw=Qr ((B.take m).any λx=>x==p)/\W3=ws) (λ_ i _=>N B-(intOf i).toNat)
   case atStart=>exact⟨0,ZB _,rfl,rfl,rfl⟩
   case round=>
    obtain⟨m,hm,rfl,rfl,rfl⟩:=hrel;by_cases IK:m<N B
    .obtain⟨b,aK,rfl,ae⟩:=HI.o.get IK;have aF:=ae m IK;have HS:=Zh (any_succ (p:=p) IK);generalize E B m 0=y at*;generalize ((B.take m).any λx=>x==p)=tw at*;clear ae
     cases tw with
     |true =>
      go_wp2;go_roundw
      case rel=>exact⟨m+1,X,Qe,by rw[HS.o];rfl,trivial⟩
      case measure=>exact XK
     |false =>
      go_wp2;go_roundw
      case rel=>exact⟨m+1,X,Qe,by rw[HS.o];simp,trivial⟩
      case measure=>exact XK
    .have ag:m=N B:=X
     subst ag;rw[ZJ];have aG:=D.size;have L:=Zh F9
     cases htw:(B.any λx=>x==p) with
     |true =>
      have ai:wrap64 (((k:Int))-1)=((k-1:Nat):Int):=Qg;have UZ:Qn _:=d;clear ai d;go_wp2;go_roundw
      case rel=>exact⟨k-1,B,congrArg (Value.int J) (show _=((k-1:Nat):Int) by omega),X,UZ.o,A,L.o,D⟩
      case measure=>exact XK
     |false =>
      have UZ:Qn _:=d;go_wp2_with (first|(at_builtin;refine wpList_append_own _ rfl _ _ 22 rfl (M (H W)) 3 i0 (.int J 0) 1 8 underlying22 hi ak au av rfl Qc _ _ _ rfl (d.alloc _) (aD (M (H W3)) 0) 1 1 [.int J p] rfl rfl ?q1 ?q2 ?q3 ?q4 ?q5 ?_))
      case q1=>
       intro j u hj
       match j,hj with
       |0,hj=>simp at hj;subst hj;simp[Addr.add]
      case q2=>intro u hu;simp at hu;subst hu;rfl
      case q3=>unfold maxLen;omega
      case q4=>omega
      case q5=>simp;omega
      intro v' w1 C f _;have Cy:∀g,(Value.slice mh (N B) eQ).ownBlock=O g->M (H W)<=g:=λg hg=>(Xg UZ.o hg).1;have P:=(aH.alloc L.o (Qt #[I J p] 3)).grown f (λe=>Qk (Cy _ e)) (λa ha e=>Ql (Cy _ e) (sK.o a ha));have Q:Kept (λb=>b≠mb) W w1:=by have h1:Kept (λb=>b≠mb) W (W3.alloc (Qt #[I J p] 3)):=D.trans (ZT _ _);exact((h1.mono (t:=λb=>b≠mb/\b<M (H W)) (λb _ h=>h.1)).trans (Xe f (λr e h=>Ql (Cy r e) h.2))).mono (λb hb h=>⟨h,hb⟩)
      have Sz:Qn _:=C;obtain⟨az,aA⟩:=aS P Q;clear C f d P Q;go_wp2;go_roundw
      case rel=>exact⟨k-1,B++[p],congrArg (Value.int J) (show _=((k-1:Nat):Int) by omega),by rw[ZG,Jt];omega,by rw[ZG,Q5];exact Sz.o,⟨xA A.o.1 ax ay,NW A.o.2 htw⟩,az.o,aA.o⟩
      case measure=>exact XK
  .have aj:k=0:=X
   subst aj;go_wp2;go_ret;exact⟨_,xs,rfl,q,A.o.1,A.o.2,X,hM,hK⟩
def aH.eP(h:aH mb lo lc l A)(hk:Kept s A B)(h1:s mb)(h2:∀a,lo=O a->s a.block):aH mb lo lc l B:=by obtain⟨k,b,d⟩:=h.num;exact⟨⟨k,b,Xa d hk h1⟩,Xa h.lst hk h1,(Xi (a:=(aD mb 1)) (hk.block mb h.lt h1)).trans h.thaw,⟨h.ints.1,h.ints.2.keep λa f e=>hk.block _ e (h2 a f)⟩,h.off⟩
def caseA(cv:Qm)(q:ae)(dv:Qm):Array Value:=#[cv,q.src.val,Z q.cK (N q.wh) q.aM,Qr q.group,q.keys.val,q.sums.val,q.aU.val,q.ord.val,dv]
def Ga(co:PN)(cc:Nat)(ts:Qy af)(q:ae)(dv:Qm)(hdv:∃a m c,dv=Z a m c)(w:U)(hx:aQ w co ts)(hc:fD ts=T)(hq:q.src.At w)(h5:N q.src.xs<=5)(ha:bP q.src.xs (N ts)=T) :
  Cb 21 #[Qu (caseA (Z co (N ts) cc) q dv)] w (I J (aN ts q.src.xs)):=by
 obtain⟨u,v,y,rfl⟩:=hdv;obtain⟨⟨p,r,xs⟩,z,A,B,group,d,e,f,ord⟩:=q;unfold ah.At at hq;simp only at h5 ha hq;unfold caseA ah.val;simp only;obtain⟨W,HA⟩:=aS hc ha;have t:=cZ w (Qt #[Z co (N ts) cc,Z p (N xs) r,Z z (N B) A,Qr group,Z d.ad (N d.xs) d.cap,Z e.ad (N e.xs) e.cap,Z f.ad (N f.xs) f.cap,Z ord.ad (N ord.xs) ord.cap,Z u v y] 29);have C:=hx.below t;have D:=Q8 t hq;have Q:Qp (w.alloc (Qt #[Z co (N ts) cc,Z p (N xs) r,Z z (N B) A,Qr group,Z d.ad (N d.xs) d.cap,Z e.ad (N e.xs) e.cap,Z f.ad (N f.xs) f.cap,Z ord.ad (N ord.xs) ord.cap,Z u v y] 29)) (aD (M (H w)) 0)=O (Z co (N ts) cc):=Qa;have R:Qp (w.alloc (Qt #[Z co (N ts) cc,Z p (N xs) r,Z z (N B) A,Qr group,Z d.ad (N d.xs) d.cap,Z e.ad (N e.xs) e.cap,Z f.ad (N f.xs) f.cap,Z ord.ad (N ord.xs) ord.cap,Z u v y] 29)) (aD (M (H w)) 1)=O (Z p (N xs) r):=Qa;have G:=Zh t;clear hc ha hx hq t;go_enter func21,ntmps21;go_wp2;obtain⟨w1,l⟩:=eX (w.alloc (Qt #[Z co (N ts) cc,Z p (N xs) r,Z z (N B) A,Qr group,Z d.ad (N d.xs) d.cap,Z e.ad (N e.xs) e.cap,Z f.ad (N f.xs) f.cap,Z ord.ad (N ord.xs) ord.cap,Z u v y] 29));rw[l]at G C D Q R;rw[l];clear l;go_loopw [3,4] (λn i wr=>∃k:Nat,k<=N xs/\i=I J k/\n=I J (aN ts (xs.take k))/\Bw w1 wr) (λ_ i _=>N xs-(intOf i).toNat)
 case atStart=>exact⟨0,ZB _,rfl,rfl,Q9 _ _⟩
 case round=>
  obtain⟨k,hk,rfl,rfl,g⟩:=hrel;have aa:=rU W.o HA.o k hk;obtain⟨d0,d1⟩:=jf g Q R;by_cases j:k<N xs
  .obtain⟨sb,ai,rfl,hs⟩:=D.get j;have K:=cB g (hs k j);have hr:=mi HA.o j;have mq:=pg W.o (i:=xs[k].toNat) X;obtain⟨b,aj,rfl,t0,-⟩:=C.2 xs[k].toNat X;have L:=cB g t0;have HS:=Zh (jO ts xs k j);generalize (E ts xs[k].toNat tz).aL=cl,aN ts (xs.take k)=W0 at*;have S:E xs k 0=xs[k]:=by simp[List.getD,j]
   rw[S]at K;clear hs t0 C D S;generalize P:xs[k]=xk at*;clear P;obtain⟨xn,rfl⟩:∃xn:Nat,xk=(xn:Int):=⟨xk.toNat,X⟩;simp only[Xv]at L;have ag:wrap64 (W0+cl)=W0+cl:=Qg;go_wp2;go_quiet (fail);go_wp2;go_roundw
   case rel=>exact⟨k+1,X,Qe,by rw[HS.o],below_drewN g _⟩
   case measure=>exact XK
  .go_wp2;go_ret;have:k=N xs:=X
   subst this;exact⟨QZ (by rw[ZJ]),G.o.trans (g.mono G.o.size)⟩
def Yv(h:fD ts=T):1<=N ts/\N ts<=8:=by unfold fD at h;simp_all
theorem NY(hc:fD ts=T)(ha:bP xs (N ts)=T)(h1:1<=N xs)(h5:N xs<=5):1<=aN ts xs/\aN ts xs<=20:=by
 have d:∀t∈xs,1<=(E ts t.toNat tz).aL/\(E ts t.toNat tz).aL<=4:=λt b=>by unfold bP at ha;rw[Q7]at ha;have:=ha t b;simp only[Q6,Zf]at this;exact pg hc (i:=t.toNat) X
 have e:∀l:Qx,(∀t∈l,1<=(E ts t.toNat tz).aL/\(E ts t.toNat tz).aL<=4)->(N l:Int)<=aN ts l/\aN ts l<=4*N l:=by
  intro l
  induction l with
  |nil=>intro _;simp[aN]
  |cons a l ih =>
   intro h;have h1:=ih (λt b=>h t (by simp[b]));have f:=h a Qa;have g:aN ts (a::l)=(E ts a.toNat tz).aL+aN ts l:=by simp[aN]
   grind
 grind
def jl:ah:=⟨Qs,0,[]⟩
def qz:ae:=⟨jl,Qs,0,[],F,jl,jl,jl,jl⟩
structure eF(mb qb:Nat)(lo:PN)(lc:Nat)(l:Qx)(e tq:TypeId)(W0:U)(c:Qm->Array Qm)(W:U)(v:Qm)(xs:Qx):Prop where
 gb:GB W qb tq (c v)
 own:W.ownsRow (M (H W0)) e 1 v (N xs) (xs.map (Value.int J))
 GK:aH mb lo lc l W
 kept:Kept (λb=>b≠mb/\b≠qb) W0 W
def eF.keep{mb qb:Nat}{lo:PN}{lc:Nat}{l:Qx}{e tq:TypeId}{W0:U}{c:Qm->Array Qm}{A B:U}{v:Qm}{xs:Qx}(h:eF mb qb lo lc l e tq W0 c A v xs)(hk:Kept (λb=>b≠mb) A B)(hm:aH mb lo lc l B)
  (hq:qb≠mb) (hmb:mb<M (H W0)):eF mb qb lo lc l e tq W0 c B v xs:=
 ⟨h.gb.keep hk hq,Xf h.own hk (λg a=>Qk ((Xg h.own a).1)),hm,h.kept.trans (hk.mono λb _ h=>h.1)⟩
theorem eF.more{v':Qm}(h:eF mb qb lo lc l e tq W0 c A v xs){f:Nat}
  (ha:Kept (λ_=>True) A A1) (hown:B.ownsRow (M (H W0)) e 1 v' (N xs+1) (xs.map (Value.int J)++[I J p])) (hg:A1.grownBy B v.ownBlock) (hc:(c v).setIfInBounds f v' = c v')
  (hq:qb≠mb) (hmb:mb<M (H W0)) (hqb:qb<M (H W0)) (hlo:∀a,lo=O a->a.block<M (H W0)/\a.block≠qb) :
  eF mb qb lo lc l e tq W0 c (Qo B (aD qb f) v') v' (xs++[p]):=by
 have j:∀g,v.ownBlock=O g->M (H W0)<=g:=λg hg=>(Xg h.own hg).1;have k:∀g,v'.ownBlock=O g->M (H W0)<=g:=λg hg=>(Xg hown hg).1;have d:Kept (λb=>v.ownBlock≠O b) A B:=(ha.mono λ_ _ _=>trivial).trans (Xe hg (λr e n=>n e));have i:Kept (λb=>v.ownBlock≠O b/\b≠qb) A (Qo B (aD qb f) v'):=(d.mono λ_ _ h=>h.1).trans (Xd _ _ _ (λh=>h.2 rfl));refine⟨?_,?_,?_,?_⟩
 .have m:=h.gb.keep d (λe=>Qb)
  grind [GB.set]
 .have:=Xf hown (s:=λb=>b≠qb) (Xd B (aD qb f) v' (λh=>h rfl)) (λg hg=>Qb)
  simp_all
 .exact h.GK.eP i ⟨λe=>Qb,Ne.symm hq⟩ (λa ha=>⟨λe=>Qb,(hlo a ha).2⟩)
 .exact((h.kept.mono (t:=λb=>(b≠mb/\b≠qb)/\b<M (H W0)) (λb _ h=>h.1)).trans (i.mono λb _ h=>⟨λe=>Qb,h.1.2⟩)).mono (λb q h=>⟨h,q⟩)
def eF.far(h:eF mb qb lo lc l e tq W0 c A v xs)
  (ha:Kept (λ_=>True) A A1) (hg:A1.grownBy B v.ownBlock):Kept (λb=>b<M (H W0)) A B:=
 (ha.mono λ_ _ _=>trivial).trans (Xe hg (λr e a=>Qk ((Xg h.own e).1)))
def aQ.keep{A B:U}{ao:PN}{ts:Qy af}(h:aQ A ao ts)(hb:∀a,ao=O a->a.block<M (H A)->B.heap[a.block]? = A.heap[a.block]?):aQ B ao ts:=by
 refine⟨h.1,λi q=>?_⟩;obtain⟨b,d,rfl,f,j,k,l,m,n⟩:=h.2 i q;have g:b<M (H A):=ZW (p:=(aD b (d+i*6))) f;have e:=hb (aD b d) rfl g;exact⟨b,d,rfl,(ZX (a:=(aD b (d+i*6))) e).trans f,(ZX (a:=(aD b (d+i*6+1))) e).trans j,(ZX (a:=(aD b (d+i*6+2))) e).trans k,
  (ZX (a:=(aD b (d+i*6+3))) e).trans l,(ZX (a:=(aD b (d+i*6+4))) e).trans m,(ZX (a:=(aD b (d+i*6+5))) e).trans n⟩
def bE.keep{A B:U}{ao:PN}{cs:Qy aA}(h:bE A ao cs)(hb:∀a,ao=O a->a.block<M (H A)->B.heap[a.block]? = A.heap[a.block]?):bE B ao cs:=by
 refine⟨h.1,λi n=>?_⟩;obtain⟨b,d,rfl,f,j,k,l,m⟩:=h.2 i n;have g:b<M (H A):=ZW (p:=(aD b (d+i*5))) f;have e:=hb (aD b d) rfl g;exact⟨b,d,rfl,(ZX (a:=(aD b (d+i*5))) e).trans f,(ZX (a:=(aD b (d+i*5+1))) e).trans j,(ZX (a:=(aD b (d+i*5+2))) e).trans k,
  (ZX (a:=(aD b (d+i*5+3))) e).trans l,(ZX (a:=(aD b (d+i*5+4))) e).trans m⟩
def iI(n:Nat)(x:ah)(S:U):Prop:=bH.At x S/\(∀b,bH.blk x=O b->n<=b)/\N x.xs<=x.cap
def iI.keep{n:Nat}{x:ah}{A B:U}{s:Qz}(h:iI n x A)(hk:Kept s A B)(hs:∀b,n<=b->s b):iI n x B:=
 ⟨bH.keep h.1 hk.size (λb a d=>hk.block b a (hs b (h.2.1 b d))),h.2.1,h.2.2⟩
def iI.nil(n:Nat)(S:U):iI n jl S:=
 ⟨⟨⟨by simp[jl],λi d=>absurd d (by simp[jl])⟩,(λa e=>by cases e),λ_=>rfl⟩,(λb f=>by cases f),by simp[jl]⟩
def iB{base:Nat}(h:w.ownsRow base e 1 v k (xs.map (Value.int J)))(hl:N xs<=1000)(hb:n<=base):∃a:ah,v=a.val/\a.xs=xs/\iI n a w:=by
 obtain⟨a,j,l,d,f⟩:=kF h X;refine⟨a,j,l,d,λb i=>ZN hb (f b i),?_⟩;have m:N xs=k:=by have:=h.1;simp_all
 rcases h.2 with⟨hv',h0⟩|⟨g,cap,cur,hv',_,_,hc,_⟩
 .simp_all
 .rw[j]at hv';unfold ah.val at hv'
  simp_all
def xB(n:Nat)(ad:PN)(ls:Qy aG)(S:U):Prop:=
 fC S ad ls/\(∀a,ad=O a->n<=a.block)/\∀i,i<N ls->∀a,(E ls i lz).ad=O a->n<=a.block
def xB.keep{n:Nat}{ad:PN}{ls:Qy aG}{A B:U}{s:Qz}(h:xB n ad ls A)(hk:Kept s A B)(hs:∀b,n<=b->s b):xB n ad ls B:=
 ⟨⟨h.1.1,h.1.2.1.keep λa e d=>hk.block _ d (hs _ (h.2.1 a e)),λi f=>(h.1.2.2 i f).keep λa e d=>hk.block _ d (hs _ (h.2.2 i f a e))⟩,h.2.1,h.2.2⟩
structure dE(n:Nat)(q:ae)(S:U):Prop where
 src:iI n q.src S
 wh:xB n q.cK q.wh S
 keys:iI n q.keys S
 sums:iI n q.sums S
 aU:iI n q.aU S
 ord:iI n q.ord S
 nil:q.cK=Qs->q.aM=0
def dE.keep{n:Nat}{q:ae}{A B:U}{s:Qz}(h:dE n q A)(hk:Kept s A B)(hs:∀b,n<=b->s b):dE n q B:=
 ⟨h.src.keep hk hs,h.wh.keep hk hs,h.keys.keep hk hs,h.sums.keep hk hs,h.aU.keep hk hs,h.ord.keep hk hs,h.nil⟩
def iI.lower{x:ah}(h:iI n x S)(hm:m<=n):iI m x S:=⟨h.1,λb a=>ZN hm (h.2.1 b a),h.2.2⟩
def dE.lower{n m:Nat}{q:ae}{S:U}(h:dE n q S)(hm:m<=n):dE m q S:=
 ⟨h.src.lower hm,⟨h.wh.1,λa b=>ZN hm (h.wh.2.1 a b),λi d a b=>ZN hm (h.wh.2.2 i d a b)⟩,h.keys.lower hm,h.sums.lower hm,h.aU.lower hm,h.ord.lower hm,h.nil⟩
def dE.at'{q:ae}(h:dE n q S):q.At S:=⟨h.src.1.1,h.wh.1,h.keys.1.1,h.sums.1.1,h.aU.1.1,h.ord.1.1⟩
def Ju:=@dE.keep
def getD_in{l:List α}{d:α}(hk:k<N l):E l k d∈l:=by
 have e:E l k d=l[k]:=by simp[List.getD,hk]
 rw[e];exact XO hk
def xL(x:Int):Prop:=-2305843009213693952<=x/\x<=2305843009213693952
def rR(ss row aL:Qx)(k:Nat):Qx:=(oC ss row aL).take k++ss.drop k
def OP:rR ss row aL 0=ss:=by simp[rR]
def Uz(h:N ss=N aL):rR ss row aL (N aL)=oC ss row aL:=by unfold rR;rw[XQ (by rw[mI h];exact Za _),List.drop_of_length_le X,X0]
def UA(h:N ss=N aL)(hk:k<N aL):(rR ss row aL k)[k]? = O (E ss k 0):=by unfold rR;rw[List.getElem?_append_right (by rw[XT,mI h];omega),XT,mI h,Nat.min_eq_left X,Nat.sub_self,List.getElem?_drop];simp[List.getD,show k<N ss by omega]
def UB(h:N ss=N aL)(hk:k<N aL):(rR ss row aL k).set k (PY (E ss k 0) (E row (E aL k 0).toNat 0))=rR ss row aL (k+1):=by
 unfold rR;have a:N ((oC ss row aL).take k)=k:=by rw[XT,mI h];omega
 rw[List.set_append_right _ _ X,a,Nat.sub_self,List.drop_eq_getElem_cons X,QX,Q4 (by rw[mI h];omega),X6];congr 2;simp[oC,List.getD,hk,show k<N ss by omega]
def Gw(gb sb:Nat)(kv:Qm)(cnt:Nat)(ss:Qx)(x c:ah)(w:U)(hgs:gb≠sb)
  (hg:w.heap[gb]? = O (Qt #[kv,I J cnt,Z (O (aD sb 0)) (N c.xs) (N c.xs)] 244)) (hs:w.heap[sb]? = O (Qt (ss.map (Value.int J)).toArray 3)) (hl:N ss=N c.xs) (hcl:N c.xs<=4)
  (hx:x.At w) (hc:c.At w) (hxb:∀a,x.ad=O a->a.block≠gb/\a.block≠sb) (hcb:0<N c.xs->∀a,c.ad=O a->a.block≠gb/\a.block≠sb) (ha:bP c.xs (N x.xs)=T)
  (hcnt:cnt<=1000000) (hbs:∀s∈ss,xL s) (hbx:∀v∈x.xs,xL v) :
  Calls V 179 #[Y (O (aD gb 0)),x.val,c.val] w λe w'=>(∃v,e=Qv v)/\
   w'.heap[gb]? = O (Qt #[kv,I J (cnt+1:Nat),Z (O (aD sb 0)) (N c.xs) (N c.xs)] 244)/\w'.heap[sb]? = O (Qt ((oC ss x.xs c.xs).map (Value.int J)).toArray 3)/\
   Kept (λb=>b≠gb/\b≠sb) w w'/\M (H w')=M (H w):=by
 obtain⟨zQ,mo,xs⟩:=x;obtain⟨aA,Mo,cs⟩:=c;unfold ah.val;simp only at*;have c1:Qp w (aD gb 1)=O (I J cnt):=Jy hg rfl;have f1:=vw hg 1;have q:wrap64 ((cnt:Int)+1)=((cnt+1:Nat):Int):=Qg;obtain⟨HG,HS⟩:=aS hg hs;have HX:Qn _:=hx;have HC:Qn _:=hc;obtain⟨u,pY,HA,y⟩:=sU hxb hcb ha hl;have r:Qn _:=hgs;obtain⟨yB,vz⟩:=aS hbs hbx;clear hg hs hx hc hxb hcb ha hl hgs hbs hbx;go_enter func179,ntmps179;go_wp2;go_loopw [17] (λi wr=>∃k:Nat,k<=N cs/\i=I J k/\wr.heap[gb]? = O (Qt #[kv,I J (cnt+1:Nat),Z (O (aD sb 0)) (N cs) (N cs)] 244)/\wr.heap[sb]? = O (Qt ((rR ss xs cs k).map (Value.int J)).toArray 3)/\
  Kept (λb=>b≠gb/\b≠sb) w wr/\M (H wr)=M (H w)) (λi _=>N cs-(intOf i).toNat)
 case atStart=>
  refine⟨0,ZB _,rfl,?_,?_,Xd _ _ _ (λh=>h.1 rfl),by simp[World.setCell]⟩
  .have:=Ey HG.o 1 (I J (wrap64 ((cnt:Int)+1)));rw[q]at this
   first|exact this|(rw[q];exact this)
  .rw[K3 (λe=>r.o e.symm),OP];exact HS.o
 case round=>
  obtain⟨k,hk,rfl,l,d,f,p⟩:=hrel;by_cases g:k<N cs
  .obtain⟨cb,aj,rfl,z⟩:=HC.o.get g;have K:=Xa (z k g) f (pY.o X (aD cb aj) rfl);have az:=mi HA.o g;have t:E cs k 0=cs[k]:=by simp[List.getD,g]
   have n:cs[k].toNat<N xs:=X;obtain⟨xb,ak,rfl,Lg⟩:=HX.o.get n;have L:=Xa (Lg _ n) f (u.o (aD xb ak) rfl);have c2:Qp wr (aD gb 2)=O (Z (O (aD sb 0)) (N cs) (N cs)):=Jy l rfl;have c3:=Jy d (by rw[List.getElem?_toArray,Xt,UA y.o g];rfl);have f3:=vw d k;have j:=UB (row:=xs) y.o g;rw[t]at j K;have P:xL (E ss k 0):=yB.o _ (getD_in (Qk y.o));have Q:xL (E xs cs[k].toNat 0):=vz.o _ (getD_in n);have R:((cs[k].toNat:Nat):Int)=cs[k]:=X;obtain⟨JC,A,B,C,D⟩:=EI l d f p j;clear l d f p j z Lg t;generalize E ss k 0=sv,E xs cs[k].toNat 0=xv at*;generalize Vz:cs[k]=ck at*;clear Vz;obtain⟨cn,rfl⟩:∃cn:Nat,ck=(cn:Int):=⟨ck.toNat,X⟩;simp only[Xv]at n L;clear R c1 f1;obtain⟨G,m⟩:=eX ((Qo wr (aD sb k) (I J (PY sv xv))).drew);have S:Kept (λb=>b≠sb) wr G:=by rw[<-m];exact(Xd wr (aD sb k) _ (λh=>h rfl)).trans ⟨rfl,rfl,rfl,Za _,λ_ _ _=>rfl⟩
   have W:=Zh ((S.block gb (ZV.1 JC.o).1 r.o).trans JC.o);have aa:Qn (G.heap[sb]? = O (Qt ((rR ss xs cs (k+1)).map (Value.int J)).toArray 3)):=by have h:=Ey A.o k (I J (PY sv xv));rw[Zn,<-List.map_set,D.o]at h;rw[<-m];exact h
   have ae:=Zh (B.o.trans (S.mono λ_ _ h=>h.2));have af:Qn (M (H G)=M (H w)):=by
    have h:M (H G)=M (H wr):=by rw[<-m];show M (H (wr.setCell _ _))=_;simp[World.setCell]
    exact h.trans C.o
   have ag:=Zh m;clear S m JC A B C D HG HS HA y r yB vz HX HC u pY q hcnt;go_wp2;go_region_with (refine(Gu sv xv _ P Q).mono ?_;rintro e w4 ⟨rfl,rfl⟩)
   all_goals
    rw[ag.o];go_wp2;go_roundw
    case rel=>exact⟨k+1,X,Qe,W.o,aa.o,ae.o,af.o⟩
    case measure=>exact XK
  .have ai:k=N cs:=X
   subst ai;rw[Uz y.o]at d;obtain⟨au,av,ax,ay⟩:=sU l d f p;clear l d f p;go_wp2
   (try simp only[Exit.inBlock,Exit.then])
   refine bodyPost_end (results_none rfl _ _ _) rfl ?_;exact⟨⟨_,rfl⟩,au.o,av.o,ax.o,ay.o⟩
section
open Go.Maps Go.WideMaps
def nU:∀(os:Qy Obj) (w:U) (i:Nat) (hi:i<N os),(os.foldl World.alloc w).heap[M (H w)+i]? = O os[i]
 |[],_,i,hi=>by simp at hi
 |o::os,w,0,_=>by
  rw[Zw];have hb:∀(os:Qy Obj) (v:U),Bw v (os.foldl World.alloc v):=by
   intro os
   induction os with
   |nil=>intro v;exact Q9 _ _
   |cons o os ih=>intro v;rw[Zw];exact(cZ v o).trans ((ih _).mono (cZ v o).size)
  exact((hb os (w.alloc o)).block (M (H w)) Qa).trans (lT w o)
 |o::os,w,i+1,hi=>by rw[Zw];have h:=nU os (w.alloc o) i (by simpa using hi);rw[Xo]at h;rw[show M (H w)+(i+1)=M (H w)+1+i by omega,h];rfl
def mG:∀(os:Qy Obj) (v:U),Bw v (os.foldl World.alloc v):=by
 intro os
 induction os with
 |nil=>intro v;exact Q9 _ _
 |cons o os ih=>intro v;rw[Zw];exact(cZ v o).trans ((ih _).mono (cZ v o).size)
structure GA(P:Program)(tm tg ti:TypeId)(z:Qm)(w W:U)(n:Nat)(ss:Qx)(sv:Qm)(L gr cap gb sb:Nat):Prop where
 box:Qp W (aD (M (H w)+2) 0)=O (Z (O (aD gr 0)) 1 cap)
 ptr:Qp W (aD gr 0)=O (Y (O (aD gb 0)))
 g:W.heap[gb]? = O (Qt #[Z Qs 0 0,I J n,Z (O (aD sb 0)) L L] tg)
 s:W.heap[sb]? = O (Qt (ss.map (Value.int J)).toArray ti)
 look:∀Xq:U,Xq.heap[M (H w)+3]? = W.heap[M (H w)+3]?->(Instr.lookup tm (.map (O (M (H w)+3))) z T).run P Xq=.ok (.tuple #[I J 0,Qr T]) Xq
 bk:Qp W (aD (M (H w)) 0)=O (Z Qs 0 0)
 bs:Qp W (aD (M (H w)+1) 0)=O sv
 bn:Qp W (aD (M (H w)+4) 0)=O (.map (O (M (H w)+3)))
 below:Bw w W
 far:M (H w)+5<=gr/\M (H w)+5<=gb/\M (H w)+5<=sb/\gr≠gb/\gr≠sb/\gb≠sb
def gaO(n gr gb sb b:Nat):Prop:=b=gr∨b=gb∨b=sb∨b=n+2∨b=n+3
def GA.lts{W:U}(h:GA P tm tg ti z w W n ss sv L gr cap gb sb):gr<M (H W)/\gb<M (H W)/\sb<M (H W)/\M (H w)+4<M (H W):=
 ⟨ZW h.ptr,(ZV.1 h.g).1,(ZV.1 h.s).1,ZW h.bn⟩
def GA.turn{ss':Qx}(h:GA P tm tg ti z w A n ss sv L gr cap gb sb)(hk:Kept s A B)(hs:∀b,b=gr∨b<M (H w)+5->s b)
  (hg:B.heap[gb]? = O (Qt #[Z Qs 0 0,I J m,Z (O (aD sb 0)) L L] tg)) (hss:B.heap[sb]? = O (Qt (ss'.map (Value.int J)).toArray ti)):GA P tm tg ti z w B m ss' sv L gr cap gb sb:=by have f:=h.lts;have q:∀b,b<M (H w)+5->s b:=λb a=>hs b (.inr a);exact⟨Xa h.box hk (q _ (show _+2<_ by omega)),Xa h.ptr hk (hs _ (.inl rfl)),hg,hss,λd e=>h.look d (e.trans (hk.block _ X (q _ X))),Xa h.bk hk (q _ (show M (H w)<_ by omega)),Xa h.bs hk (q _ (show _+1<_ by omega)),Xa h.bn hk (q _ (show _+4<_ by omega)),h.below.trans (hk.below h.below.size (λb a=>q b X)),h.far⟩
def GA.keep{P:Program}{tm tg ti:TypeId}{z:Qm}{w A B:U}{n:Nat}{ss:Qx}{sv:Qm}{L gr cap gb sb:Nat}(h:GA P tm tg ti z w A n ss sv L gr cap gb sb){s:Qz}(hk:Kept s A B)(hs:∀b,gaO (M (H w)) gr gb sb b∨b<M (H w)+5->s b):GA P tm tg ti z w B n ss sv L gr cap gb sb:=
 h.turn hk (λb a=>hs b (a.imp .inl id)) ((hk.block _ h.lts.2.1 (hs _ (.inl (.inr (.inl rfl))))).trans h.g) ((hk.block _ h.lts.2.2.1 (hs _ (.inl (.inr (.inr (.inl rfl)))))).trans h.s)
def mH(aL:Qx)(rows:Qy (Qx)):Qx:=rows.foldl (λa r=>oC a r aL) (List.replicate (N aL) 1073741824)
def Co(aL:Qx):∀(rows:Qy (Qx)) (a:Qx),N a=N aL->N (rows.foldl (λa r=>oC a r aL) a)=N aL
 |[],_,h=>h
 |_::rows,_,h=>Co aL rows _ (mI h)
attribute [local go_sem] Oper.semAt_some
def Tryz.ahy:ArrKey V 241 3 4:=⟨underlying241,Qd,Qd,Qd⟩
def Tryz.xM:Go.Maps.Keyed V 241:=Go.Maps.Keyed.of_law Tryz.ahy.law
def Tryz.ac2(w:U):(zeroValue 3).run V w=.ok (I J 0) w:=Qd
def Tryz.ac3:(V.info? 209).map (λi=>(i.zero,i.size,i.bytes))=O (O (Y Qs),1,8):=Qd
def Cq:Value:=Qu #[I J 0,I J 0,I J 0,I J 0]
def UD:∃l,keyOf V 241 Cq=O l:=⟨(keyOf V 241 Cq).getD (.int J 0),Qd⟩
def gaB(w:U)(sv:Qm):Qy Obj:=[Qt #[Z Qs 0 0] 22,Qt #[sv] 22,Qt #[Z Qs 0 0] 207,.map #[] 0,Qt #[.map (O (M (H w)+1+1+1))] 239]
end
def hasB(ar:Nat)(sb cb kb ob:Bool)(n:ai):Qy Bool:=
 [decide ((ar:Int)<1)&&(n.l != 0),decide ((ar:Int)<2)&&(n.r != 0),!sb&&(n.source != 0),!kb&&(n.key != 0),!cb&&decide (0<N n.cl.xs),!ob&&decide (0<N n.co.xs)]
theorem Ue(n:ai):(!((hasB (arity n.kind) (decide (n.kind=1)) (decide (2<=n.kind/\n.kind<=5)) (decide (n.kind=4∨n.kind=5)) (decide (n.kind=6)) n).any id))=qQ n:=by unfold hasB qQ;rw[XU];simp only[List.any_cons,List.any_nil,id,Bool.not_eq_true',Bool.or_eq_false_iff,Bool.and_eq_false_iff,Zf,decide_eq_false_iff_not,Bool.not_eq_false',bne_eq_false_iff_eq];grind
def Dp(n:ai)(ar:Nat)(sb cb kb ob:Bool)(w:U)(hcl:N n.cl.xs<=1152921504606846976)(hco:N n.co.xs<=1152921504606846976) :
  Cb 154 #[Qu n.cells,Qu #[I J (ar:Int),Qr sb,Qr cb,Qr kb,Qr ob]] w (Qr (!((hasB ar sb cb kb ob n).any id))):=by
 obtain⟨w1,aa,p,k⟩:=bC w n.cells 138;obtain⟨w2,ae,q,t⟩:=bC w1 #[I J (ar:Int),Qr sb,Qr cb,Qr kb,Qr ob] 225;have g:=q;have m:=az p g;have i:=k.of (g.block _ k.lt);have jJ:=i.at 1;have kT:=i.at 2;have jY:=i.at 3;have jZ:=i.at 4;have kU:=i.at 5;have kV:=i.at 6;have W:=t;obtain⟨Ay,Ar,Au,MS,Av⟩:=W.k5;have j:=Zh m;obtain⟨u,D⟩:∃B,B=(decide ((ar:Int)<1)&&(n.l != 0)):=⟨_,rfl⟩;obtain⟨v,G⟩:∃B,B=(decide ((ar:Int)<2)&&(n.r != 0)):=⟨_,rfl⟩;obtain⟨y,K⟩:∃B,B=(!sb&&(n.source != 0)):=⟨_,rfl⟩;obtain⟨z,P⟩:∃B,B=(!kb&&(n.key != 0)):=⟨_,rfl⟩;obtain⟨A,Q⟩:=eY ((!cb&&decide (0<N n.cl.xs)));obtain⟨C,R⟩:=eY ((!ob&&decide (0<N n.co.xs)));have a:Qn (hasB ar sb cb kb ob n=[u,v,y,z,A,C]):=by show _=_;unfold hasB;rw[D,G,K,P,Q,R]
 obtain⟨E1,E2,E3,E4,E5,E6⟩:=aaZ D G K P Q R;generalize hasB ar sb cb kb ob n=L at*;generalize S:n.cells=NC at*;clear D G K P Q R S k t i W p q m g;obtain⟨nk,nl,nr,ns,⟨na,nc,nx⟩,ny,⟨oa,oc,ox⟩⟩:=n;unfold ah.val at*;simp only at*;go_enter func154,ntmps154;go_upto_region 1 with fail;go_cut [5] from 6 to 13 (λc f=>c=Qr u/\f=w2)
 case first=>
  by_cases d:(ar:Int)<1
  .have b:u=(nl != 0):=by rw[E1.o,Zi d,Zj]
   go_wp2_with fail;go_meet;exact⟨by rw[b],rfl⟩
  .have b:u=false:=by rw[E1.o,Zr d,Bool.false_and]
   go_wp2_with fail;go_meet;exact⟨by rw[b],rfl⟩
 case rest=>
 obtain⟨rfl,rfl⟩:=hcut
 cases hB1:u with
 |true =>
  rw[hB1]at a;have e:Qn ((!L.any id)=F):=by show _=_;rw[a.o];simp
  clear a;go_wp2;go_ret;exact⟨QY e.o.symm,j.o⟩
 |false =>
 rw[hB1]at a;clear hB1;go_upto_region 2 with fail;go_cut [5] from 14 to 21 (λc f=>c=Qr v/\f=wc)
 case first=>
  by_cases d:(ar:Int)<2
  .have b:v=(nr != 0):=by rw[E2.o,Zi d,Zj]
   go_wp2_with fail;go_meet;exact⟨by rw[b],rfl⟩
  .have b:v=false:=by rw[E2.o,Zr d,Bool.false_and]
   go_wp2_with fail;go_meet;exact⟨by rw[b],rfl⟩
 case rest=>
 obtain⟨rfl,rfl⟩:=hcut
 cases hB2:v with
 |true =>
  rw[hB2]at a;have e:Qn ((!L.any id)=F):=by show _=_;rw[a.o];simp
  clear a;go_wp2;go_ret;exact⟨QY e.o.symm,j.o⟩
 |false =>
 rw[hB2]at a;clear hB2;go_upto_region 4 with fail;go_cut [22] from 23 to 30 (λc f=>c=Qr y/\f=wc)
 case first=>
  cases d:sb with
  |false =>
   subst d;have b:y=(ns != 0):=by rw[E3.o];rfl
   go_wp2_with fail;go_meet;exact⟨by rw[b],rfl⟩
  |true =>
   subst d;have b:y=false:=by rw[E3.o];rfl
   go_wp2_with fail;go_meet;exact⟨by rw[b],rfl⟩
 case rest=>
 obtain⟨rfl,rfl⟩:=hcut
 cases hB3:y with
 |true =>
  rw[hB3]at a;have e:Qn ((!L.any id)=F):=by show _=_;rw[a.o];simp
  clear a;go_wp2;go_ret;exact⟨QY e.o.symm,j.o⟩
 |false =>
 rw[hB3]at a;clear hB3;go_upto_region 5 with fail;go_cut [22] from 31 to 38 (λc f=>c=Qr z/\f=wc)
 case first=>
  cases d:kb with
  |false =>
   subst d;have b:z=(ny != 0):=by rw[E4.o];rfl
   go_wp2_with fail;go_meet;exact⟨by rw[b],rfl⟩
  |true =>
   subst d;have b:z=false:=by rw[E4.o];rfl
   go_wp2_with fail;go_meet;exact⟨by rw[b],rfl⟩
 case rest=>
 obtain⟨rfl,rfl⟩:=hcut
 cases hB4:z with
 |true =>
  rw[hB4]at a;have e:Qn ((!L.any id)=F):=by show _=_;rw[a.o];simp
  clear a;go_wp2;go_ret;exact⟨QY e.o.symm,j.o⟩
 |false =>
 rw[hB4]at a;clear hB4;go_upto_region 7 with fail;go_cut [39] from 40 to 48 (λc f=>c=Qr A/\f=wc)
 case first=>
  cases d:cb with
  |false =>
   subst d;have b:A=(decide (0<N nx)):=by rw[E5.o];rfl
   go_wp2_with fail;go_meet;exact⟨by rw[b],rfl⟩
  |true =>
   subst d;have b:A=false:=by rw[E5.o];rfl
   go_wp2_with fail;go_meet;exact⟨by rw[b],rfl⟩
 case rest=>
 obtain⟨rfl,rfl⟩:=hcut
 cases hB5:A with
 |true =>
  rw[hB5]at a;have e:Qn ((!L.any id)=F):=by show _=_;rw[a.o];simp
  clear a;go_wp2;go_ret;exact⟨QY e.o.symm,j.o⟩
 |false =>
 rw[hB5]at a;clear hB5;go_upto_region 8 with fail;go_cut [39] from 49 to 57 (λc f=>c=Qr C/\f=wc)
 case first=>
  cases d:ob with
  |false =>
   subst d;have b:C=(decide (0<N ox)):=by rw[E6.o];rfl
   go_wp2_with fail;go_meet;exact⟨by rw[b],rfl⟩
  |true =>
   subst d;have b:C=false:=by rw[E6.o];rfl
   go_wp2_with fail;go_meet;exact⟨by rw[b],rfl⟩
 case rest=>
 obtain⟨rfl,rfl⟩:=hcut
 cases hB6:C with
 |true =>
  rw[hB6]at a;have e:Qn ((!L.any id)=F):=by show _=_;rw[a.o];simp
  clear a;go_wp2;go_ret;exact⟨QY e.o.symm,j.o⟩
 |false =>
 rw[hB6]at a;clear hB6;have e:Qn ((!L.any id)=T):=by show _=_;rw[a.o];rfl
 clear a;go_wp2;go_ret;exact⟨QY e.o.symm,j.o⟩
def ve(pl:Qy ai)(i j:Nat):Nat:=fB i λm=>(inpN pl m).count j
def Eu(pl:Qy ai)(i j:Nat):ve pl (i+1) j=ve pl i j+(inpN pl i).count j:=jR _ _
theorem acS(pl:Qy ai)(i:Nat):N (inpN pl i)<=2:=by unfold inpN;grind
def Pt(pl:Qy ai)(j:Nat):∀i,ve pl i j<=2*i
 |0=>by simp[ve,fB]
 |i+1=>by rw[Eu];have h1:=Pt pl j i;have h2:(inpN pl i).count j<=N (inpN pl i):=List.count_le_length;have h3:=acS pl i;omega
def nC(k:Int):arity k<=2:=by unfold arity;split <;> (try split) <;> omega
def l8(n:ai)(i:Nat):Bool:=(aJ n).all λx=>decide (0<=x)&&decide (x<(i:Int))
def Uf(n:ai)(i:Nat):eu n i=(decide (1<=n.kind)&&decide (n.kind<=10)&&qQ n&&l8 n i):=by
 unfold eu l8 aJ;have b:=nC n.kind;generalize arity n.kind=a at*;rw[Bool.and_assoc];congr 1
 match a,b with
 |0,_=>simp
 |1,_=>simp
 |2,_=>simp
def ahh(h:l8 (E pl i nz) i=T):inpN pl i=(aJ (E pl i nz)).map Int.toNat:=by
 unfold l8 aJ at h;unfold inpN aJ;simp only;have b:=nC (E pl i nz).kind;generalize arity (E pl i nz).kind=a at*
 match a,b with
 |0,_=>simp
 |1,_ =>
  simp at h;simp[h]
 |2,_ =>
  simp at h;simp[h]
def xG(pl:Qy ai)(i m j:Nat):Nat:=ve pl i j+(((aJ (E pl i nz)).take m).map Int.toNat).count j
theorem Ug(pl:Qy ai)(i:Nat)(hm:m<N (aJ (E pl i nz)))(j:Nat):xG pl i (m+1) j=xG pl i m j+if j=(E (aJ (E pl i nz)) m 0).toNat then 1 else 0:=by
 unfold xG;generalize aJ (E pl i nz)=L at*;have e:E L m 0=L[m]:=by simp[List.getD,hm]
 rw[Q4 hm,Q5,List.count_append,e];grind
def Uh(pl:Qy ai)(i j:Nat):xG pl i 0 j=ve pl i j:=by unfold xG;simp
def YZ(h:l8 (E pl i nz) i=T)(j:Nat):xG pl i (N (aJ (E pl i nz))) j=ve pl (i+1) j:=by unfold xG;rw[ZJ,Eu,ahh h]
def nR(n:ai):N (aJ n)<=2:=by unfold aJ;rw[XT];simp;omega
theorem Ui{n:ai}(hm:m<N (aJ n))(h:E (aJ n) m 0<0∨(i:Int)<=E (aJ n) m 0):l8 n i=false:=by unfold l8;rw[List.all_eq_false];refine⟨_,Xy hm (d:=0),?_⟩;grind
theorem Uj{n:ai}{i:Nat}(h:∀m,m<N (aJ n)->0<=E (aJ n) m 0/\E (aJ n) m 0<(i:Int)):l8 n i=true:=by unfold l8;rw[Q7];intro x a;obtain⟨m,b,rfl⟩:=Zc a;grind
theorem Y0{pl:Qy ai}{k:Nat}(hk:k<N pl)(h:eu (E pl k nz) k=F):dD pl=false:=by unfold dD;grind
theorem Uk(h1:1<=N pl)(h64:N pl<=64)(h:∀i,i<N pl->eu (E pl i nz) i=T):dD pl=vI pl:=by unfold dD;grind
def Y1{pl:Qy ai}{k:Nat}(hk:k<N pl-1)(h:ve pl (N pl) k≠1):vI pl=false:=by unfold vI;rw[List.all_eq_false];exact⟨k,List.mem_range.2 hk,by show ¬decide (ve pl (N pl) k=1)=T;rw[Zr h];simp⟩
def Ul{pl:Qy ai}(h:∀k,k<N pl-1->ve pl (N pl) k=1):vI pl=true:=by unfold vI;rw[Q7];exact λk a=>Zi (h k (List.mem_range.1 a))
def Y2(n:ai)(w:U)(h1:1<=n.kind)(hcl:N n.cl.xs<=1152921504606846976)(hco:N n.co.xs<=1152921504606846976) :
  Cb 154 #[Qu n.cells,Qu (fM n.kind)] w (Qr (qQ n)):=by have h:=Dp n (arity n.kind) (decide (n.kind=1)) (decide (2<=n.kind/\n.kind<=5)) (decide (n.kind=4∨n.kind=5)) (decide (n.kind=6)) w hcl hco;rw[Ue]at h;unfold fM;rw[oh h1];exact h
theorem Ot(po:PN)(pc:Nat)(pl:Qy ai)(w:U)(hp:jD w po pl)(hs:bM w 0) :
  Cb 104 #[Z po (N pl) pc] w (Qr (dD pl)):=by
 have bS:=hp.1;by_cases z0:N pl<1
 .have d:=Zh (by  unfold dD;rw[Zr X];rfl:dD pl=F)
  have aI:(N pl:Int)<1:=X;generalize dD pl=R at*;clear hp hs;go_enter func104,ntmps104;go_wp2;go_ret;exact⟨QY d.o.symm,Q9 _ _⟩
 by_cases z1:64<N pl
 .have d:=Zh (by  unfold dD;grind:dD pl=F)
  have bz:(64:Int)<(N pl:Int):=X;have aI:¬(N pl:Int)<1:=X;generalize dD pl=R at*;clear hp hs;go_enter func104,ntmps104;go_wp2;go_ret;exact⟨QY d.o.symm,Q9 _ _⟩
 have bA:=run_make_row' (P:=V) 22 3 (.int J 0) 8 underlying22 Tryz.info3 rfl J J (N pl) X X;obtain⟨w1,ae⟩:=eX (w.alloc (Qt (madeCells #[.int J 0] (N pl)) 3));have aK:w1.rowIs (M (H w)) 3 (N pl) (λ_=>.int J 0):=by rw[<-ae];exact World.rowIs_made _ _ _ _
 have aL:Bw w w1:=by rw[<-ae];exact cZ _ _
 have bB:M (H w)<M (H w1):=by rw[<-ae];simp
 have au:Qn (∀x,Kept (λb=>b≠M (H w)) w1 x->Bw w x/\jD x po pl/\bM x 0):=λx hk=>by have G:=Below.trans aL (hk.below (Nat.le_of_lt bB) (λb G=>Nat.ne_of_lt G));exact⟨G,hp.below G,hs.below G⟩
 have aI:¬(N pl:Int)<1:=X;have bz:¬(64:Int)<(N pl:Int):=X;have t:Qn _:=@Y0 pl;have aM:=Zh (Uk (pl:=pl) X X);have aN:Qn _:=@Y1 pl;have aO:Qn _:=@Ul pl;have Ii:=hd aK;have pJ:Qn (∀i j,ve pl i j<=2*i):=λi j=>Pt pl j i;generalize dD pl=R,vI pl=OB at*;clear hp hs aK aL z0 z1;go_enter func104,ntmps104;go_wp2;clear ae bA;go_loopw [23] (λB wr=>∃k:Nat,k<=N pl/\B=I J k/\Qn (∀i,i<k->eu (E pl i nz) i=T)/\Qn (wr.rowIs (M (H w)) 3 (N pl) (λj=>I J ((ve pl k j:Nat):Int)))/\Qn (Kept (λb=>b≠M (H w)) w1 wr)) (λB _=>N pl-(intOf B).toNat)
 case atStart=>exact⟨0,ZB _,rfl,λj g=>absurd g X,Ii.o,ZO _ _⟩
 case round=>
  obtain⟨k,hk,rfl,HJ,af,vJ⟩:=hrel;obtain⟨ag,aB,aC⟩:=au.o wr vJ.o;by_cases bu:k<N pl
  .obtain⟨pb,bY,rfl,c0,c1,c2,c3,c4,c5,c6,i1,i2⟩:=aB.2 k bu;have y:Qn (eu (E pl k nz) k=F->R=F):=λe=>t.o bu e
   have DX:Qn (eu (E pl k nz) k=T->∀i,i<k+1->eu (E pl i nz) i=T):=λh i hi=>by
    rcases XV i k with h'|h'
    .exact HJ.o i h'
    grind
   have f:=Zh (Uf (E pl k nz) k);have q:Qn (∀m,m<N (aJ (E pl k nz))->(E (aJ (E pl k nz)) m 0<0∨(k:Int)<=E (aJ (E pl k nz)) m 0)->l8 (E pl k nz) k=F):=λm hm h=>Ui hm h;have l:Qn _:=@Uj (E pl k nz) k;have MR:Qn (∀m,m<N (aJ (E pl k nz))->∀j,xG pl k (m+1) j=xG pl k m j+if j=(E (aJ (E pl k nz)) m 0).toNat then 1 else 0):=λm hm j=>Ug pl k hm j;have Ef:Qn (l8 (E pl k nz) k=T->∀j,xG pl k (N (aJ (E pl k nz))) j=ve pl (k+1) j):=λh j=>YZ h j;have pY:Qn (∀m j,xG pl k m j<=2*k+2):=λm j=>by unfold xG;have h1:=pJ.o k j;have h2:(((aJ (E pl k nz)).take m).map Int.toNat).count j<=N (((aJ (E pl k nz)).take m).map Int.toNat):=List.count_le_length;rw[ZH,XT]at h2;have h3:=nR (E pl k nz);omega
   have av:Qn (wr.rowIs (M (H w)) 3 (N pl) (λj=>I J ((xG pl k 0 j:Nat):Int))):=af.o.congr (λj _=>by rw[Uh]);have Q:Qn (∀x,1<=(E pl k nz).kind->_):=λx h1=>Y2 (E pl k nz) x h1 i1.1 i2.1;have Pf:Qn (∀x,bM x 0->1<=(E pl k nz).kind->(E pl k nz).kind<=10->_):=λx hs h1 bQ=>wF (E pl k nz) x hs h1 bQ;have bD:=Zh (nR (E pl k nz));generalize aJ (E pl k nz)=L,l8 (E pl k nz) k=AB,eu (E pl k nz) k=SB,qQ (E pl k nz)=MB,xG pl k=CI at*;generalize E pl k nz=n at*;obtain⟨nk,nl,nr,ns,⟨na,nc,nx⟩,ny,⟨oa,oc,ox⟩⟩:=n;unfold ai.cells ah.val at*;simp only at*;clear i1 i2 HJ af t aB;obtain⟨wb,bJ,aj,aZ⟩:=bC wr #[I J nk,I J nl,I J nr,I J ns,Z na (N nx) nc,I J ny,Z oa (N ox) oc] 138;obtain⟨C,m1,m2,m3,m4,m5,m6⟩:=aZ.k7;obtain⟨jE,Ve,aF⟩:=jX (az ag aj) aj (aC.below aj);clear aZ aj ag aC;by_cases b1:nk<1
   .have d:=Zh (y.o (by rw[f.o,Zr X];rfl));clear f y DX q l MR Ef pY Q Pf;go_wp2;refine Zd ?_;refine qA4 ?_;go_big_quiet_skip
    try simp only[pU]
    iterate 2 (go_big_quiet_skip;try simp only[pU])
    refine EJ ?_;go_big_quiet_skip;try simp only[pU]
    iterate 6 (go_big_quiet_skip;try simp only[pU])
    refine Le ?_;refine XZ ?_;intro w2 a;have z:=Zh (az jE.o a);clear a;go_wp2;go_ret;exact⟨QY d.o.symm,z.o⟩
   by_cases b2:10<nk
   .have d:=Zh (y.o (by rw[f.o,Zr (show ¬nk<=10 by omega),Bool.and_false];rfl));clear f y DX q l MR Ef pY Q Pf;go_wp2;refine Zd ?_;refine Le ?_;refine qC (I J nk) C ?_;refine qS (Qr F) ?_;refine qS (Qr F) ?_;refine Le ?_;refine qC (I J nk) C ?_;refine qS (Qr T) ?_;refine qS (Qr T) ?_;go_big_quiet_want;refine⟨Qr T,λx hx=>?_,?_⟩
    .go_simp
    simp only[pU];go_big_quiet_on;go_big_quiet_skip;try simp only[pU]
    iterate 6 (go_big_quiet_skip;try simp only[pU])
    refine Le ?_;refine XZ ?_;intro w2 a;have z:=Zh (az jE.o a);clear a;go_wp2;go_ret;exact⟨QY d.o.symm,z.o⟩
   have S:=λx=>Q.o x X;have ax:=λx hs=>Pf.o x hs X X;obtain⟨K,rfl⟩:=XR (show 0<=nk by omega);have bE:K<=10:=X;obtain⟨t0,t1,t2,t3,t4⟩:=bM.get aF.o bE;obtain⟨s0,s1,s2,s3,s4,bf,e0,e1,e2,e3,e4⟩:∃s0 s1 s2 s3 s4,fM (K:Int)=#[s0,s1,s2,s3,s4]/\s0=I J (wC K)/\s1=Qr (decide ((K:Int)=1))/\s2=Qr (decide (2<=(K:Int)/\(K:Int)<=5))/\s3=Qr (decide ((K:Int)=4∨(K:Int)=5))/\s4=Qr (decide ((K:Int)=6)):=⟨_,_,_,_,_,rfl,rfl,rfl,rfl,rfl,rfl⟩;rw[<-e0]at t0;rw[<-e1]at t1;rw[<-e2]at t2;rw[<-e3]at t3;rw[<-e4]at t4;rw[ZC]at t0 t1 t2 t3 t4;rw[bf]at S;have aP:decide (1<=(K:Int))=true:=Zi X;have aQ:decide ((K:Int)<=10)=true:=Zi X;rw[aP,aQ]at f;clear e0 e1 e2 e3 e4 bf Q Pf aP aQ;have bT:¬(11:Int)<=(K:Int):=X
   cases MB with
   |false =>
    have d:=Zh (y.o (by rw[f.o];rfl));clear f y DX q l MR Ef pY ax;go_wp2;refine Zd ?_;refine Le ?_;refine qC (I J (K:Int)) C ?_;refine qS (Qr F) ?_;refine qS (Qr F) ?_;refine Le ?_;refine qC (I J (K:Int)) C ?_;refine qS (Qr F) ?_;refine qS (Qr F) ?_;refine qS (Qr F) ?_;refine EJ ?_;refine qC (I J (K:Int)) C ?_;refine EJ ?_;go_big_quiet_want;refine⟨Qr F,λx hx=>?_,?_⟩
    .have hC:=Ze hx (S x);go_simp
    simp only[pU];go_big_quiet_on;refine EJ ?_;refine XZ ?_;intro w2 a;have z:=Zh (az jE.o a);clear a;go_wp2;go_ret;exact⟨QY d.o.symm,z.o⟩
   |true =>
    have aR:=Zh (by  rw[f.o];rfl:SB=AB)
    clear f;have f:=Zh aR.o;clear aR;go_wp2;refine Zd ?_;refine Le ?_;refine qC (I J (K:Int)) C ?_;refine qS (Qr F) ?_;refine qS (Qr F) ?_;refine Le ?_;refine qC (I J (K:Int)) C ?_;refine qS (Qr F) ?_;refine qS (Qr F) ?_;refine qS (Qr F) ?_;refine EJ ?_;refine qC (I J (K:Int)) C ?_;refine EJ ?_;go_big_quiet_want;refine⟨Qr T,λx hx=>?_,?_⟩
    .have hC:=Ze hx (S x);go_simp
    simp only[pU];go_big_quiet_on;refine EJ ?_;refine XZ ?_;intro w2 a;obtain⟨q0,q1,q2,q3,q4⟩:=jW a C m1 m2 m3 m4;obtain⟨q5,q6⟩:=jf a m5 m6;have aT:=ax w2 (Jd a aF.o);obtain⟨qP,ak⟩:=aS (vJ.o.trans (ZP (az Ve.o a) (λb G _=>G))) (av.o.of_block ((az Ve.o a).block _ av.o.lt));clear a S ax C m1 m2 m3 m4 m5 m6 t0 t1 t2 t3 t4 av aF Ve bJ c0 c1 c2 c3 c4 c5 c6;go_wp2_with fail;refine XX aT ?_;clear aT q0 q1 q2 q3 q4 q5 q6;rintro e w3 ⟨ib,rfl,bg,bK,aG⟩;obtain⟨qN,bL⟩:=aS (qP.o.trans (ZP aG (λb G _=>G))) (ak.o.of_block (aG.block _ ak.o.lt));have bF:ib≠M (H w):=Qk ak.o.lt;have VI:Qn _:=bg;have bU:=bD.o;clear bg bK aG qP ak;go_wp2;go_loopw [48] (λB wx=>∃m:Nat,m<=N L/\B=I J m/\Qn (∀j,j<m->0<=E L j 0/\E L j 0<(k:Int))/\Qn (wx.rowIs (M (H w)) 3 (N pl) (λj=>I J ((CI m j:Nat):Int)))/\Qn (Kept (λb=>b≠M (H w)) w3 wx)) (λB _=>N L-(intOf B).toNat)
    case atStart=>exact⟨0,ZB _,rfl,λj g=>absurd g X,bL.o,ZO _ _⟩
    case round=>
     obtain⟨m,hm,rfl,p,Vf,J2⟩:=hrel;by_cases r:m<N L
     .obtain⟨bZ,io,ei,bn⟩:=Q3 VI.o r
      cases ei;have aU:=Xa (bn m r) J2.o bF;rw[ZC]at aU;obtain⟨Um,Un⟩:=aS (q.o m r) (MR.o m r);have W:Qn _:=λj=>pY.o m j;have IB:Qn (∀x,x=E L m 0->0<=x->x<(k:Int)->∀j,j<m+1->0<=E L j 0/\E L j 0<(k:Int)):=λx hx h0 h1 j g=>by
       rcases XV j m with h'|h'
       .exact p.o j h'
       .obtain rfl:j=m:=X
        rw[<-hx];exact⟨h0,h1⟩
      have vz:=Zh ((au.o wr (qN.o.trans J2.o)).1);clear bn p q MR pY;obtain⟨x,aH⟩:=eY (E L m 0);rw[<-aH]at aU Um Un;have aa:=Zh (IB.o x aH);clear aH IB;by_cases x0:x<0
      .have d:=Zh (y.o (by rw[f.o,Um.o (.inl x0)]));clear f y DX l Ef Um Un W aa;go_wp2;go_ret;exact⟨QY d.o.symm,vz.o⟩
      by_cases x1:(k:Int)<=x
      .have d:=Zh (y.o (by rw[f.o,Um.o (.inr x1)]));clear f y DX l Ef Um Un W aa;go_wp2;go_ret;exact⟨QY d.o.symm,vz.o⟩
      obtain⟨D,rfl⟩:=XR (show 0<=x by omega);have hX:D<N pl:=X;have aV:=Vf.o.cell hX;have bV:=Vf.o.frozen D;have aW:=W.o D;rw[Xv]at Un;have qD:Qn (∀v:Nat,v=CI m D+1->(Qo wr (aD (M (H w)) D) (I J (v:Int))).rowIs (M (H w)) 3 (N pl) (λj=>I J ((CI (m+1) j:Nat):Int))):=λv hv=>
       (Vf.o.set D (I J (v:Int))).congr (λj _=>by
        show (if j=D then _ else _)=_;rw[Un.o j];by_cases g:j=D
        .rw[Zb g,Zb g,g,hv]
        .rw[Zg g,Zg g,XH])
      have bG:=Zh (aa.o X X);obtain⟨u,hu⟩:=eY (CI m D);rw[<-hu]at aV aW qD;have bW:u<=200:=X;have aX:Qn (Kept (λb=>b≠M (H w)) w3 (Qo wr (aD (M (H w)) D) (I J ((u+1:Nat):Int)))):=J2.o.trans (Xd _ _ _ (λh=>h rfl));have aY:Qn _:=qD.o (u+1) rfl;clear hu Vf Un W qD Um aa aW;have A:((u+1:Nat):Int)=(u:Int)+1:=X;rw[A]at aX aY;clear A;go_wp2;go_roundw
      case rel=>exact⟨m+1,X,Qe,bG.o,aY.o,aX.o⟩
      case measure=>exact XK
     .obtain rfl:m=N L:=X
      have ay:=l.o p.o;obtain⟨bN,bO,bP⟩:=jX (DX.o (by rw[f.o,ay])) (Vf.o.congr (λj _=>by rw[Ef.o ay j])) (qN.o.trans J2.o);clear ay l DX f Ef Vf J2 p y q MR pY;go_wp2;go_roundw
      case rel=>exact⟨k+1,X,Qe,bN.o,bO.o,bP.o⟩
      case measure=>exact XK
  .obtain rfl:k=N pl:=X
   obtain⟨d,bq⟩:=aS (aM.o HJ.o) ag;have bH:Qn (∀j,j<N pl->Qp wr (aD (M (H w)) j)=O (I J ((ve pl (N pl) j:Nat):Int))):=λj g=>af.o.cell g;clear t aM HJ af vJ ag aB aC au Ii;generalize ve pl (N pl)=CN at*;obtain⟨Nq,hN⟩:=eX (N pl-1);have bR:(N pl:Int)-1=(Nq:Int):=X;have bX:Nq<=N pl:=X;rw[hN]at aN aO;have Kg:=Zh hN;clear hN;go_wp2;go_loop [73] (λB=>∃m:Nat,m<=Nq/\B=I J m/\Qn (∀j,j<m->CN j=1)) (λB=>Nq-(intOf B).toNat)
   case atStart=>exact⟨0,ZB _,rfl,λj g=>absurd g X⟩
   case round=>
    obtain⟨m,hm,rfl,p⟩:=hrel;by_cases r:m<Nq
    .have aV:=bH.o m (Qk Kg.o);have aA:=Zh (aN.o r);have IB:Qn (CN m=1->∀j,j<m+1->CN j=1):=λh j g=>by
      rcases XV j m with h'|h'
      .exact p.o j h'
      .obtain rfl:j=m:=X
       exact h
     generalize CN m=c at*;by_cases hc:c=1
     .have HT:=Zh (IB.o hc);have bI:((c:Int) != 1)=false:=by rw[hc];rfl
      clear IB hc aA;go_wp2;go_round
      case rel=>exact⟨m+1,X,Qe,HT.o⟩
      case measure=>exact XK
     .have Ru:=Zh (by  rw[d.o];exact aA.o hc:R=F)
      have bI:((c:Int) != 1)=true:=by rw[bne_iff_ne];omega
      clear IB hc aA;go_wp2;go_ret;exact⟨QY Ru.o.symm,bq.o⟩
    .have Ru:=Zh (by  rw[d.o];exact aO.o (λj g=>p.o j X):R=T)
     go_wp2;go_ret;exact⟨QY Ru.o.symm,bq.o⟩
def BV{ts:Qy af}{q:ae}{pl:Qy ai}{k:Nat}(h:fH ts q pl k=Qs):∀m,k<=m->fH ts q pl m=Qs
 |0,hm=>by simp_all
 |m+1,hm=>by
  by_cases e:k=m+1
  .simp_all
  .show (fH ts q pl m).bind _=Qs
   rw[BV h m X];rfl
def dL(n:ai)(ps:Qy aC):Qy aC:=(aJ n).map λx=>E ps x.toNat bG
theorem rO(n:ai)(ps:Qy aC):N (dL n ps)=N (aJ n):=by grind [dL]
def lD(n:ai):N (aJ n)=arity n.kind:=by unfold aJ;rw[XT];have:=nC n.kind;simp;omega
def rP{β:Type}(f:α->β)(l:List α)(i:Nat)(z:α):E (l.map f) i (f z)=f (E l i z):=by simp_all
def ad9(n:ai)(ps:Qy aC):(E (dL n ps) 0 bG).d=fe n (ps.map aC.d):=by
 unfold dL aJ fe;have a:=nC n.kind;rcases (by omega:arity n.kind=0∨arity n.kind=1∨arity n.kind=2) with h|h|h <;> rw[h]
 .rfl
 .show (E ps n.l.toNat bG).d=_
  rw[Zb X];exact(rP aC.d ps n.l.toNat bG).symm
 .show (E ps n.l.toNat bG).d=_
  rw[Zb X];exact(rP aC.d ps n.l.toNat bG).symm
def aea(n:ai)(ps:Qy aC):(E (dL n ps) 1 bG).d=fo n (ps.map aC.d):=by
 unfold dL aJ fo;have a:=nC n.kind;rcases (by omega:arity n.kind=0∨arity n.kind=1∨arity n.kind=2) with h|h|h <;> rw[h]
 .rfl
 .rfl
 .show (E ps n.r.toNat bG).d=_
  rw[Zb rfl];exact(rP aC.d ps n.r.toNat bG).symm
theorem Ou(n:ai)(ps:Qy aC):jI n.kind (dL n ps)=lU n.kind (fe n (ps.map aC.d)) (fo n (ps.map aC.d)):=by
 rw[<-ad9,<-aea];have b:=nC n.kind;have hz:∀{k:Int},arity k=2->decide (k=10)=false:=λ{k} h=>by unfold arity at h;grind
 have a:∀{k:Int},arity k=0->decide (k=10)=false:=λ{k} h=>by unfold arity at h;grind
 unfold dL aJ lU jI;rcases (by omega:arity n.kind=0∨arity n.kind=1∨arity n.kind=2) with h|h|h
 .rw[h,a h];rfl
 .rw[h];rfl
 .rw[h]
  show (([E ps n.l.toNat bG,E ps n.r.toNat bG]:Qy aC).all _)=_;simp only[List.all_cons,List.all_nil,Bool.and_true];show _=((eT (E ps n.l.toNat bG).kind==decide (n.kind=10)) && !eT (E ps n.r.toNat bG).kind);simp_all
def step_eq(ts:Qy af)(q:ae)(n:ai)(ps:Qy aC):mg ts q n (ps.map aC.d)=if (jI n.kind (dL n ps)&&iK ts q n (E (dL n ps) 0 bG).d (E (dL n ps) 1 bG).d)=T then O (ps.map aC.d++[lG ts q n (E (dL n ps) 0 bG).d (E (dL n ps) 1 bG).d]) else none:=by unfold mg;rw[Ou,ad9,aea]
def Y3(h:dD pl=T):1<=N pl/\N pl<=64/\∀i,i<N pl->eu (E pl i nz) i=true:=by unfold dD at h;simp_all
theorem BX{n:ai}(h:eu n i=T):1<=n.kind/\n.kind<=10/\∀m,m<N (aJ n)->0<=E (aJ n) m 0/\E (aJ n) m 0<(i:Int):=by
 unfold eu at h;simp only[Q6,Bool.or_eq_true,Zf]at h;obtain⟨⟨⟨⟨b,a⟩,_⟩,j⟩,k⟩:=h;refine⟨b,a,λm d=>?_⟩;rw[lD]at d;have e:=nC n.kind;have f:0<arity n.kind->E (aJ n) 0 0=n.l:=λh=>by unfold aJ;simp_all
 have g:1<arity n.kind->E (aJ n) 1 0=n.r:=λh=>by unfold aJ;simp_all
 grind
theorem Ov{n:ai}{i:Nat}(h:eu n i=T)(ho:eT n.kind=T):0<=n.l/\n.l<(i:Int):=by
 obtain⟨g,b,d⟩:=BX h;have e:7<=n.kind:=by unfold eT at ho;simp_all
 have a:arity n.kind=1:=by unfold arity;grind
 have:=d 0 (by rw[lD,a];omega);have f:E (aJ n) 0 0=n.l:=by unfold aJ;rw[a];rfl
 omega
theorem Y4{n:ai}{ps:Qy aC}(hm:m<N (aJ n)):(dL n ps).take (m+1)=(dL n ps).take m++[E ps (E (aJ n) m 0).toNat bG]:=by grind [dL,List.take_succ_eq_append_getElem]
