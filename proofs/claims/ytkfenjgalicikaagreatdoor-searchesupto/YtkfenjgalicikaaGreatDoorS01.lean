import Derived.Test.YtkfenjgalicikaaGreatDoorS00
set_option linter.all false
set_option maxRecDepth 100000
set_option maxHeartbeats 0
namespace Go.Proofs.Zz
open Go.RowKit Go.Shelf Go.Proofs.Tryz
open List renaming length->N,getD->E
open Go.Value renaming int->I
open Option renaming some->O,none->Qr
open Go.IntKind renaming i64->J
open Bool renaming false->F,true->T
variable {i:Nat} {n:ay} {ts:JK af} {q:ae} {plan:JK ay} {ps:JK dG} {v:dX}
def iP(ts:JK af)(q:ae)(plan:JK ay)(i:Nat):Option dX:=pG ts q plan (i+1) i
theorem tu(ts:JK af)(q:ae)(plan:JK ay){f:Nat}(h:i<f):pG ts q plan f i=iP ts q plan i:=yL ts q plan f (i+1) i h (Nat.lt_succ_self i)
def DX(ts:JK af)(q:ae)(plan:JK ay)(i:Nat)(hn:E plan i nz=n)(hp:fK n=T)(hk:n.kind=1) :
  iP ts q plan i=if n.source<0∨(N q.au.xs:Int)<=n.source then Qr else O ⟨[n.source],[],[],F,kM ts q [n.source] [],uF 1 (kM ts q [n.source] []) vz vz⟩:=by unfold iP pG;simp_all
theorem Ct(ts:JK af)(q:ae)(plan:JK ay)(i:Nat)(hn:E plan i nz=n)(hp:fK n=F):iP ts q plan i=none:=by unfold iP pG;simp_all
theorem RN(ts:JK af)(q:ae)(plan:JK ay)(i:Nat)(hn:E plan i nz=n)(hp:fK n=T)(hk:2<=n.kind)(yt:n.kind<=10)(ha:bg n.kind≠2)(h0:0<=n.l)(h1:n.l<i) :
  iP ts q plan i=(iP ts q plan n.l.toNat).bind λl=>oJ ts q n l vz:=by unfold iP;rw[pG];simp only[hn];rw[Zk Qb,Zk X,Zk X,tu ts q plan (f:=i) X];unfold iP;grind
theorem agw(ts:JK af)(q:ae)(plan:JK ay)(i:Nat)(hn:E plan i nz=n)(hp:fK n=T)(hk:2<=n.kind)(yt:n.kind<=10)(ha:bg n.kind=2)(h0:0<=n.l)(h1:n.l<i)(h2:0<=n.r)(h3:n.r<i) :
  iP ts q plan i=(iP ts q plan n.l.toNat).bind λl=>(iP ts q plan n.r.toNat).bind λr=>oJ ts q n l r:=by unfold iP;rw[pG];simp only[hn];rw[Zk Qb,Zk X,Zk X,tu ts q plan (f:=i) X,tu ts q plan (i:=n.r.toNat) (f:=i) X];unfold iP;grind
def MB(ts:JK af)(q:ae)(plan:JK ay)(ps:JK dG):Prop:=
 ∀i,i<N ps->∃v,iP ts q plan i=O v/\PV q (E ps i pz) v/\v.size=kM ts q v.ah v.aG
theorem agx{α:Type}(ps:List α)(p z:α)(i:Nat):E (ps++[p]) i z=if i<N ps then E ps i z else if i=N ps then p else z:=by grind
theorem MB.agy(h:MB ts q plan ps){p:dG}(hv:iP ts q plan (N ps)=O v)(hp:PV q p v)(hz:v.size=kM ts q v.ah v.aG):MB ts q plan (ps++[p]):=λi a=>by
 rw[Zt,Xh]at a;rw[agx];by_cases e:i<N ps
 .rw[Zd e];exact h i e
 grind
theorem agz(ok:Ok ts q)(plan:JK ay)(hk:MB ts q plan ps)(hs:p8 (E plan (N ps) nz) (N ps)=T) :
  (iP ts q plan (N ps)=Qr/\zV ts q (E plan (N ps) nz) ps=Qr)∨∃p v,zV ts q (E plan (N ps) nz) ps=O (ps++[p])/\iP ts q plan (N ps)=O v/\PV q p v/\v.size=kM ts q v.ah v.aG:=by
 generalize A:E plan (N ps) nz=n at hs ⊢;unfold p8 at hs;simp only[Q8,Bool.or_eq_true,Zi]at hs;obtain⟨⟨⟨⟨h1,g⟩,B⟩,hl⟩,hr⟩:=hs;unfold zV;by_cases d:n.kind=1
 .have ha:=lD d;have a:fK n=true:=by rw[DW,B,Zm,Zi];omega
  have t:iK n ps=pz:=by unfold iK;simp_all
  have j:gD n ps=pz:=by unfold gD;simp_all
  have R:n.cl.xs=[]:=by unfold xJ at B;simp_all
  rw[t,j,DX ts q plan _ A a d];have S:nE n.kind pz pz=true:=by rw[d];decide
  have G:pI ts q n pz pz=(decide (0<=n.source)&&decide (n.source<N q.au.xs)):=by unfold pI;simp_all
  rw[S,G,Zm];by_cases c:n.source<0∨(N q.au.xs:Int)<=n.source
  .grind
  .right;rw[Zk c,Zd Qf];refine⟨_,_,rfl,rfl,?_,rfl⟩;have W:2 ^ n.source.toNat=bn [n.source]:=by have:=vk n.source.toNat;grind
   have K:cK (N q.au.xs) [n.source]:=λx z=>Qf;have L:(if n.kind=1 then 2 ^ n.source.toNat else 0)|||pz.ah|||pz.ah=bn [n.source]:=by rw[Zd d,W];show bn [n.source]|||0|||0=_;simp_all
   have P:bn n.cl.xs|||pz.aG|||pz.aG=bn []:=by rw[R];rfl
   have ez:(if gI n.kind=T then pz.size else jd ts q (bn [n.source]) (bn []))=kM ts q [n.source] []:=by rw[Zk (by rw[d];decide)];exact RF ts q ok.qU ok.ig K Qa (λx z=>by cases z)
   refine⟨by show gI n.kind=F;rw[d];decide,L,K,Qa,P,(λx z=>by cases z),List.nodup_nil,?_,?_,?_⟩
   .intro _
    show (if n.kind=6 then n.co.xs else if 2<=n.kind/\n.kind<=5 then pz.aH else [])=[];simp_all
   .show (if gI n.kind=T then pz.size else jd ts q ((if n.kind=1 then 2 ^ n.source.toNat else 0)|||pz.ah|||pz.ah) (bn n.cl.xs|||pz.aG|||pz.aG))=_
    simp_all
   .show dn n.kind (if gI n.kind=T then pz.size else jd ts q ((if n.kind=1 then 2 ^ n.source.toNat else 0)|||pz.ah|||pz.ah) (bn n.cl.xs|||pz.aG|||pz.aG)) pz.aJ pz.size pz.aJ pz.size=_
    rw[L,P,ez,d];exact RH 1 _ vz vz
 have f:2<=n.kind:=X;have aa:1<=bg n.kind:=by unfold bg;grind
 have b:0<=n.l/\n.l<N ps:=by omega
 cases a:fK n with
 |false =>
  left;refine⟨Ct ts q plan _ A a,Zk ?_⟩;rw[DW,B,Zm,Zj]at a;have k6:n.kind=6:=by omega
  have G:pI ts q n (iK n ps) (gD n ps)=false:=by unfold pI;rw[Zk X,Zk X,Zk X,Zk X,Zk X,Zd k6];unfold uG;simp_all
  simp_all
 |true =>
  obtain⟨i,Q,u,hz⟩:=hk n.l.toNat X;have t:iK n ps=E ps n.l.toNat pz:=by unfold iK;simp_all
  by_cases a2:bg n.kind=2
  .have k:0<=n.r/\n.r<N ps:=by omega
   obtain⟨C,D,m,_⟩:=hk n.r.toNat X;have j:gD n ps=E ps n.r.toNat pz:=by unfold gD;simp_all
   rw[t,j,RI ok a f g u m (λe=>absurd a2 e),agw ts q plan _ A a f g a2 b.1 b.2 k.1 k.2,Q,D];simp only[Xi]
   cases hN:oJ ts q n i C with
   |none =>
    left;refine⟨rfl,Zk λe=>?_⟩;rw[pJ,Zd e]at hN;cases hN
   |some v =>
    right;have e:oP ts q n i C=true:=by
     by_cases e:oP ts q n i C=T
     .exact e
     .rw[pJ,Zk e]at hN;cases hN
    rw[Zd e];obtain⟨x,y⟩:=RJ ok a f g u m hz (λe=>absurd a2 e) hN;simp_all
  .have j:gD n ps=pz:=by unfold gD;simp_all
   rw[t,j,RI ok a f g u (afd q) (λ_=>⟨rfl,rfl⟩),RN ts q plan _ A a f g a2 b.1 b.2,Q];simp only[Xi]
   cases hN:oJ ts q n i vz with
   |none =>
    left;refine⟨rfl,Zk λe=>?_⟩;rw[pJ,Zd e]at hN;cases hN
   |some v =>
    right;have e:oP ts q n i vz=true:=by
     by_cases e:oP ts q n i vz=T
     .exact e
     .rw[pJ,Zk e]at hN;cases hN
    rw[Zd e];obtain⟨x,y⟩:=RJ ok a f g u (afd q) hz (λ_=>⟨rfl,rfl⟩) hN;simp_all
theorem MC{ts:JK af}{q:ae}(ok:Ok ts q)(plan:JK ay):∀k,(∀i,i<k->p8 (E plan i nz) i=T)->
  (mO ts q plan k=Qr/\∃i,i<k/\iP ts q plan i=Qr)∨∃ps,mO ts q plan k=O ps/\N ps=k/\MB ts q plan ps
 |0,_=>.inr ⟨[],rfl,rfl,λi e=>by cases e⟩
 |k+1,h=>by
  rcases MC ok plan k (λi e=>h i X) with⟨h1,i,e,h2⟩|⟨ps,h1,rfl,h2⟩
  .grind [mO.eq_2]
  .rcases agz ok plan h2 (h _ X) with⟨a,b⟩|⟨p,v,a,b,c,d⟩
   .grind [mO.eq_2]
   .right;refine⟨ps++[p],?_,Qa,h2.agy b c d⟩
    grind [mO.eq_2]
def l8(l:IC):Bool:=(List.range (N l)).all λi=>decide (E l i 0=(i:Int))
def jk(q:ae):IC:=q.ord.xs.map λp=>E q.bA.xs p.toNat 0
def kF(q:ae)(kind:Int)(aH:IC):Bool:=
 if N q.ord.xs=0 then T
 else if kind=10 then T
 else if kind=9 then aN aH (jk q)
 else if kind=8 then decide (N q.ord.xs<=N q.aC.xs)&&l8 q.ord.xs
 else F
def FD(plan:JK ay):Bool:=(List.range (N plan-1)).all λk=>decide (dV (N plan) (λi=>(qN plan i).count k)=1)
def nZ(plan:JK ay):Bool:=
 decide (1<=N plan)&&decide (N plan<=64)&&((List.range (N plan)).all λi=>p8 (E plan i nz) i)&&FD plan
def AX(ts:JK af)(q:ae)(plan:JK ay):Option (JK dG):=
 if nZ plan=F then Qr
 else (mO ts q plan (N plan)).bind λps=>
  let n:=E plan (N plan-1) nz
  if (gI n.kind&&kF q n.kind (E ps n.l.toNat pz).aH)=T then O ps else Qr
def qW(ts:JK af)(q:ae)(plan:JK ay):Bool:=
 let n:=E plan (N plan-1) nz
 if N q.ord.xs=0∨n.kind=10 then T
 else if n.kind=9 then aN ((iP ts q plan n.l.toNat).getD vz).aH (jk q)
 else l8 q.ord.xs&&(decide (n.kind=8)&&decide (N q.ord.xs<=N q.aC.xs))
def nG(ts:JK af)(q:ae)(plan:JK ay):Option dX:=
 if N plan<1∨64<N plan then Qr
 else (iI ts q plan (N plan) (N plan-1) []).bind λx=>if x.1.out=T/\N x.2=N plan/\qW ts q plan=T then O x.1 else Qr
theorem vX(h:iP ts q plan i=O v) :
  p8 (E plan i nz) i=T/\v.out=gI (E plan i nz).kind/\∀j∈qN plan i,∃u,iP ts q plan j=O u:=by
 unfold iP pG at h;unfold qN;simp only at h ⊢;generalize E plan i nz=n at h ⊢;by_cases y:fK n=F∨n.kind<1∨10<n.kind
 .simp_all
 rw[Zk y]at h;have b:fK n=true:=by simp_all
 have k:xJ n=true:=by rw[DW,Q8]at b;exact b.1
 have d:1<=n.kind/\n.kind<=10:=by omega
 have m:∀l r,oJ ts q n l r=O v->v.out=gI n.kind:=λl r e=>by
  rw[pJ]at e;split at e
  .injection e with e;rw[<-e]
   show decide (7<=n.kind)=_;unfold gI;simp_all
  .cases e
 unfold p8;rw[Zl d.1,Zl d.2,k];by_cases c2:n.kind=1
 .have p:=lD c2;rw[Zd c2]at h;by_cases c3:n.source<0∨(N q.au.xs:Int)<=n.source
  .simp_all
  rw[Zk c3]at h;injection h with h;rw[p,Zd rfl];refine⟨rfl,?_,λj t=>by cases t⟩;rw[<-h,c2];rfl
 rw[Zk c2]at h;have a:bg n.kind≠0:=by unfold bg;grind
 rw[Zk a];by_cases c4:n.l<0∨(i:Int)<=n.l
 .simp_all
 rw[Zk c4,tu ts q plan (f:=i) X]at h;have g:decide (0<=n.l)=T/\decide (n.l<i)=true:=⟨Zl X,Zl X⟩;rw[g.1,g.2]
 cases hvl:iP ts q plan n.l.toNat with
 |none=>simp_all
 |some l =>
  rw[hvl]at h;simp only at h;by_cases c5:bg n.kind=2
  .rw[Zd c5]at h;by_cases z:n.r<0∨(i:Int)<=n.r
   .simp_all
   rw[Zk z,tu ts q plan (f:=i) X]at h;grind
  .have A:=G5 c2 c5
   grind
theorem agA:∀(m i:Nat),i<=m->∀{v:dX},iP ts q plan i=O v->∀k∈fZ plan i,∃u,iP ts q plan k=O u:=by
 intro m
 induction m with
 |zero =>
  grind [qN,nD]
 |succ m ih =>
  intro i l v f k b;rw[nD]at b;rcases ZB.1 b with e|e
  .simp_all
  .obtain⟨j,a,d⟩:=ZA.1 e;obtain⟨u,g⟩:=(vX f).2.2 j a;have:=lY plan i j a
   grind
theorem WJ{gX:Nat}(ho:∀k,k<gX->dV (gX+1) (λi=>(qN plan i).count k)=1)(hv:iP ts q plan gX=O v):∀k,k<=gX->∃u,iP ts q plan k=O u:=λk a=>by have b:=(Mt (lY plan) gX).1 ho k a;exact agA gX gX (Zb _) hv k (List.count_pos_iff.1 (by grind [fZ]))
theorem xK(plan:JK ay)(h:1<=N plan):FD plan=T↔∀k,k<N plan-1->dV (N plan-1+1) (λi=>(qN plan i).count k)=1:=by unfold FD;simp_all
theorem RO(ok:Ok ts q)(plan:JK ay):(AX ts q plan=Qr/\nG ts q plan=Qr)∨
  ∃ps v,AX ts q plan=O ps/\nG ts q plan=O v/\1<=N plan/\N ps=N plan/\MB ts q plan ps/\(E ps (N plan-1) pz).aJ=v.aJ:=by
 unfold AX nG;by_cases P:N plan<1∨64<N plan
 .left;rw[Zd P,Zd]
  .simp_all
  grind [nZ]
 rw[Zk P];have m:1<=N plan:=X;have g:nZ plan=(((List.range (N plan)).all λi=>p8 (E plan i nz) i)&&FD plan):=by grind [nZ]
 have b:=Rw ts q plan (N plan) (N plan-1);rw[Nat.sub_add_cancel m]at b
 -- where the document reads it,all is asQ
 have S:∀v s,iI ts q plan (N plan) (N plan-1) []=O (v,s)->N s=N plan->nZ plan=T/\iP ts q plan (N plan-1)=O v/\∀i,i<N plan->∃u,iP ts q plan i=O u:=by intro v s j hs;obtain⟨a,_,c⟩:=(b v s).1 ⟨j,hs⟩;rw[tu ts q plan X]at a;have G:=(xK plan m).2 Qf;have f:=WJ ((xK plan m).1 G) a;refine⟨?_,a,λi r=>f i X⟩;rw[g,G,Bool.and_true,Q9];intro i r;obtain⟨u,p⟩:=f i Qb;exact(vX p).1
 cases hI:nZ plan with
 |false =>
  simp_all
 |true =>
  rw[Zk Qa];rw[g,Q8,Q9]at hI;obtain⟨W,aa⟩:=hI;rcases MC ok plan (N plan) (λi r=>W i (Xd.2 r)) with⟨hp,i,r,B⟩|⟨ps,hp,AY,hk⟩
  .left;rw[hp];refine⟨rfl,?_⟩
   cases j:iI ts q plan (N plan) (N plan-1) [] with
   |none=>rfl
   |some x =>
    grind
  .rw[hp];obtain⟨v,B,hP,_⟩:=hk (N plan-1) X;have j:=
    (b v _).2 ⟨by grind [tu],rfl,by grind [xK]⟩
   rw[j.1];obtain⟨C,k,ag⟩:=vX B;simp only[Xi,j.2];generalize R:E plan (N plan-1) nz=n at C k;have y:gI n.kind=T->kF q n.kind (E ps n.l.toNat pz).aH=qW ts q plan:=by
    intro t;have KZ:7<=n.kind/\n.kind<=10:=by unfold gI at t;simp_all
    unfold kF qW;simp only[R];by_cases Q:N q.ord.xs=0
    .simp_all
    rw[Zk Q];by_cases c2:n.kind=10
    .simp_all
    rw[Zk c2,Zk (show ¬(N q.ord.xs=0∨n.kind=10) from λe=>e.elim Q c2)];by_cases c3:n.kind=9
    .rw[Zd c3,Zd c3];unfold p8 at C;simp only[Q8,Bool.or_eq_true,Zi]at C;have ha:bg n.kind=1:=by rw[c3];decide
     have K:0<=n.l/\n.l<(N plan-1:Nat):=by omega
     obtain⟨u,p,D,_⟩:=hk n.l.toNat X;rw[p];have z:fK n=true:=by grind [Ct]
     have d:=RN ts q plan _ R z X X X K.1 K.2;rw[B,p]at d;simp only[Xi]at d;rw[pJ]at d;have L:oP ts q n u vz=true:=by simp_all
     unfold oP at L;simp only[Q8]at L;have A:u.out=false:=by simp_all
     rw[D.aH A];rfl
    grind
   cases t:gI n.kind with
   |false =>
    simp_all
   |true =>
    rw[k,t,y t,Zm]
    cases hsB:qW ts q plan with
    |false=>left;simp
    |true=>right;exact⟨ps,v,Qa,Qa,m,AY,hk,hP.aJ⟩
def ay.cells(n:ay):Array Value:=#[I J n.kind,I J n.l,I J n.r,I J n.source,n.cl.val,I J n.key,n.co.val]
def yP(ao:LM)(cap:Nat)(xs:IC)(n:Int)(w:World)(hx:aP w ao xs) :
  Ce 57 #[.slice ao (N xs) cap,I J n] w (.bool (dm xs n)):=by
 have j:=hx.1;go_enter func57,ntmps57;go_wp2;go_loop [5] (λi=>∃k:Nat,k<=N xs/\i=I J k/\Hid (dm (xs.take k) n=T)) (λi=>N xs-(intOf i).toNat)
 case atStart=>exact⟨0,ZR _,rfl,rfl⟩
 case round=>
  obtain⟨k,e,rfl,d⟩:=hrel;by_cases a:k<N xs
  .obtain⟨b,off,rfl,l⟩:=hx.get a;by_cases f:xs[k]<0
   .go_wp2;go_ret;exact⟨QZ (Wo xs n k a X).symm,rfl⟩
   .by_cases g:xs[k]<n
    .go_wp2;go_round
     case rel=>exact⟨k+1,X,Qe,af7 a d.o f g⟩
     case measure=>exact XK
    .go_wp2;go_ret;exact⟨QZ (Wo xs n k a X).symm,rfl⟩
  .go_wp2;go_ret;exact⟨QZ (acj e a d.o),rfl⟩
def Hf(ao:LM)(cap:Nat)(xs:IC)(w:World)(hx:aP w ao xs) :
  Calls Tryz.prog 61 #[.slice ao (N xs) cap] w λe D=>e=.returned (.bool (dK xs))/\∃n,D = w.drewN n:=by
 have K:=hx.1;go_enter func61,ntmps61;go_wp2;go_loopw [3] (λi wr=>∃k:Nat,k<=N xs/\i=I J k/\Hid (∀i,i<k->∀j,j<i->E xs i 0≠E xs j 0)/\∃n,wr=w.drewN n) (λi _=>N xs-(intOf i).toNat)
 case atStart=>exact⟨0,ZR _,rfl,λi z=>absurd z X,0,rfl⟩
 case round=>
  obtain⟨k,L,rfl,u,n,rfl⟩:=hrel;by_cases d:k<N xs
  .obtain⟨b,off,rfl,v⟩:=hx.get d;have A:=v k d;have B:=Zh v;go_wp2;go_loopw [4] (λi wr=>∃m:Nat,m<=k/\i=I J m/\Hid (∀j,j<m->E xs k 0≠E xs j 0)/\∃n,wr=w.drewN n) (λi _=>k-(intOf i).toNat)
   case atStart=>exact⟨0,ZR _,rfl,λj q=>absurd q X,n,rfl⟩
   case round=>
    obtain⟨m,P,rfl,y,Q,rfl⟩:=hrel;by_cases G:m<k
    .have a:m<N xs:=X
     have C:=B.o m a;by_cases f:xs[k]=xs[m]
     .have g:(xs[k]==xs[m])=true:=by simpa using f
      have l:=Zh f;go_wp2;go_quiet (fail);go_wp2;go_ret;exact⟨QZ (Md d G (by simpa [d,a] using l.o)),_,World.drewN_drewN _ _ _⟩
     .have g:(xs[k]==xs[m])=false:=by simpa using f
      have l:=Zh f;go_wp2;go_quiet (fail);go_wp2;go_roundw
      case rel=>
       refine⟨m+1,X,Qe,λj q=>?_,_,rfl⟩;by_cases r:j=m
       .subst r;simpa [d,a] using l.o
       .exact y.o j X
      case measure=>exact XK
    .go_wp2;go_roundw
     case rel=>
      refine⟨k+1,X,Qe,λi z=>?_,_,rfl⟩;by_cases t:i=k
      .subst t;exact λj q=>y.o j X
      .exact u.o i X
     case measure=>exact XK
  .go_wp2;go_ret;have p:k=N xs:=X
   subst p;exact⟨QZ (Az u.o),_,rfl⟩
def WW(lo v hi:Int)(w:World) :
  Ce 97 #[I J lo,I J v,I J hi] w (.bool (decide (lo<=v)&&decide (v<=hi))):=by
 by_cases a:lo<=v
 .by_cases b:v<=hi
  all_goals
   go_enter func97,ntmps97;go_wp2;go_ret;exact⟨QZ Qi,rfl⟩
 .go_enter func97,ntmps97;go_wp2;go_ret;exact⟨QZ Qi,rfl⟩
