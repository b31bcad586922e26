import Derived.Test.YtkfenjgalicikaaGreatDoorS03
set_option linter.all false
set_option maxRecDepth 100000
set_option maxHeartbeats 0
namespace Go.Proofs.Zz
open Go.RowKit Go.Shelf Go.Proofs.Tryz
open List renaming length->N,getD->E
open Go.Value renaming slice->Z,int->I,pointer->Y,bool->Qq,agg->Qt,tuple->Qv
open Go.Proofs.Tryz renaming prog->V
open Option renaming some->O,none->Qr
open Go.IntKind renaming i64->J,u64->Qp
open Bool renaming false->F,true->T
open Go renaming World->U,Value->Ql
open Go.World renaming heap->H,setCell->Qn,cell?->Qo
open _root_.Array renaming size->M
open Go.RowKit renaming Hid->Qm
open Go.Obj renaming cells->Qs
open Go.Ending renaming returned->Qu
variable {B R b base cap dR i n n0:Nat} {p:Nat->Bool} {ts:JK af} {q:ae} {v:dX} {W W' Xq Zq:U} {t tI tT:TypeId} {ao po:LM} {pl:JK ay} {s seen:JK Nat} {sv:Ql} {o:Option (dX × JK Nat)} {k:Int} {c:Array Ql}
structure bN where
 s:aA
 c:aA
 o:aA
 out:Bool
 size:Nat
 aJ:Nat
def bN.cells(v:bN):Array Value:=#[v.s.val,v.c.val,v.o.val,Qq v.out,I Qp (v.size:Int),I Qp (v.aJ:Int)]
def bN.d(v:bN):dX:=⟨v.s.xs,v.c.xs,v.o.xs,v.out,v.size,v.aJ⟩
def yC:bN:=⟨⟨Qr,0,[]⟩,⟨Qr,0,[]⟩,⟨Qr,0,[]⟩,F,0,0⟩
def abo(kind:Int)(s:Nat)(l r:bN)(w:U)(hs:s<=bO)(h1:l.size<=bO)(h2:l.aJ<=bO)(h3:r.size<=bO)(h4:r.aJ<=bO) :
  Cb 74 #[I J kind,I Qp s,Qt l.cells,Qt r.cells] w (I Qp (uF kind s l.d r.d:Nat)):=by
 have f:Qm (uF kind s l.d r.d=if kind=1 then cO s 1 else if kind=3 then cO (cO l.aJ r.aJ) (bQ l.size r.size) else if kind=4 then cO (cO l.aJ r.aJ) (cO (cO l.size s) (bQ 2 r.size)) else if kind=5 then cO (cO l.aJ r.aJ) (cO (cO l.size s) r.size)
  else if kind=6∨kind=10 then cO l.aJ (bQ l.size (jY l.size+1)) else if kind=7 then cO l.aJ (bQ 2 l.size) else cO l.aJ l.size):=rfl
 obtain⟨Eq,hE⟩:=eY (uF kind s l.d r.d);rw[<-hE]at f ⊢;clear hE;have HB:=Zh (WV h1);have i:∀(a b:Nat),a<=bO->b<=bO->∀x,Ce 112 #[I Qp a,I Qp b] x (I Qp (cO a b:Nat)):=λa b p q x=>akB a b p q x;have j:∀(a b:Nat),a<=bO->b<=bO->∀x,Ce 110 #[I Qp a,I Qp b] x (I Qp (bQ a b:Nat)):=λa b p q x=>RX a b p q x;obtain⟨⟨sa,sc,sx⟩,⟨ca,cc,cx⟩,⟨oa,oc,ox⟩,uS,ls,n⟩:=l;obtain⟨⟨L,P,Q⟩,⟨R,S,W⟩,⟨aa,ae,af⟩,sV,g,y⟩:=r;unfold bN.cells aA.val;simp only at f HB h1 h2 h3 h4 ⊢;obtain⟨w1,dB⟩:=eY ((w.alloc (Qs #[Z sa (N sx) sc,Z ca (N cx) cc,Z oa (N ox) oc,Qq uS,I Qp (ls:Int),I Qp (n:Int)] 67)).alloc (Qs #[Z L (N Q) P,Z R (N W) S,Z aa (N af) ae,Qq sV,I Qp (g:Int),I Qp (y:Int)] 67));have A:Bw w w1:=by rw[dB];exact aO (fo _ _) (fo _ _)
 have gl:GB w1 (M (H w)) 67 #[Z sa (N sx) sc,Z ca (N cx) cc,Z oa (N ox) oc,Qq uS,I Qp (ls:Int),I Qp (n:Int)]:=by rw[dB];show _=_;rw[ZF Qa,qj]
 have gr:GB w1 (M (H w)+1) 67 #[Z L (N Q) P,Z R (N W) S,Z aa (N af) ae,Qq sV,I Qp (g:Int),I Qp (y:Int)]:=by rw[dB];show _=_;have:=qj (w.alloc (Qs #[Z sa (N sx) sc,Z ca (N cx) cc,Z oa (N ox) oc,Qq uS,I Qp (ls:Int),I Qp (n:Int)] 67)) (Qs #[Z L (N Q) P,Z R (N W) S,Z aa (N af) ae,Qq sV,I Qp (g:Int),I Qp (y:Int)] 67);rw[XM]at this;exact this
 have l4:=gl.at 4;have l5:=gl.at 5;have r4:=gr.at 4;have r5:=gr.at 5;have O5:=dB.symm;have t:=xC n y;have C:=xC ls s;have ah:=nV 2 g;have ai:=nV ls g;have aj:=xC (cO ls s) g;have ak:=xC (cO ls s) (bQ 2 g);have D:=nV 2 ls;have G:=nV ls (jY ls+1);have au:(2:Nat)<=bO:=by unfold bO;omega
 have aB:(1:Nat)<=bO:=by unfold bO;omega
 clear gl gr dB;go_enter func74,ntmps74;go_wp2_with fail;refine(i n y h2 h4 w1).mono ?_;rintro e w2 ⟨rfl,rfl⟩;clear O5;go_wp2_with fail;refine(i ls s h1 hs w2).mono ?_;rintro e w3 ⟨rfl,rfl⟩;by_cases k1:kind=1
 .subst k1;go_wp2_with fail;refine(i s 1 hs aB w3).mono ?_;rintro e z ⟨rfl,rfl⟩;go_wp2;go_ret;exact⟨mg (by rw[f.out];rfl),A⟩
 by_cases k3:kind=3
 .subst k3;go_wp2_with fail;refine(j ls g h1 h3 w3).mono ?_;rintro e z ⟨rfl,rfl⟩;go_wp2_with fail;refine(i (cO n y) (bQ ls g) t ai z).mono ?_;rintro e w5 ⟨rfl,rfl⟩;go_wp2;go_ret;exact⟨mg (by rw[f.out];rfl),A⟩
 by_cases k4:kind=4
 .subst k4;go_wp2_with fail;refine(j 2 g au h3 w3).mono ?_;rintro e z ⟨rfl,rfl⟩;go_wp2_with fail;refine(i (cO ls s) (bQ 2 g) C ah z).mono ?_;rintro e w5 ⟨rfl,rfl⟩;go_wp2_with fail;refine(i (cO n y) (cO (cO ls s) (bQ 2 g)) t ak w5).mono ?_;rintro e w6 ⟨rfl,rfl⟩;go_wp2;go_ret;exact⟨mg (by rw[f.out];rfl),A⟩
 by_cases k5:kind=5
 .subst k5;go_wp2_with fail;refine(i (cO ls s) g C h3 w3).mono ?_;rintro e z ⟨rfl,rfl⟩;go_wp2_with fail;refine(i (cO n y) (cO (cO ls s) g) t aj z).mono ?_;rintro e w5 ⟨rfl,rfl⟩;go_wp2;go_ret;exact⟨mg (by rw[f.out];rfl),A⟩
 have av:(kind==1)=false:=by simp[k1]
 have ax:(kind==3)=false:=by simp[k3]
 have ay:(kind==4)=false:=by simp[k4]
 have az:(kind==5)=false:=by simp[k5]
 rw[Zk k1,Zk k3,Zk k4,Zk k5]at f;clear t C ah ai aj ak;by_cases k6:kind=6∨kind=10
 .rw[Zd k6]at f;have k:Qm (∀(a b:Nat),a<=bO->b<=bO->∀x,Cb 112 #[I Qp a,I Qp b] x (I Qp (cO a b:Nat))):=λa b p q x=>(i a b p q x).mono (λ_ _ h=>⟨h.1,by rw[h.2];exact Za _ _⟩)
  have m:Qm (∀(a b:Nat),a<=bO->b<=bO->∀x,Cb 110 #[I Qp a,I Qp b] x (I Qp (bQ a b:Nat))):=λa b p q x=>(j a b p q x).mono (λ_ _ h=>⟨h.1,by rw[h.2];exact Za _ _⟩);have aC:=akC ls h1 w3;have aH:=HB.out;obtain⟨u,v⟩:=bH (m.out ls (jY ls+1) h1 (by unfold bO;omega)) (k.out n (bQ ls (jY ls+1)) h2 G);clear i j k m D G HB;obtain⟨B,hB⟩:=eY (jY ls+1);rw[<-hB]at f u v;generalize jY ls=b at*;have aD:((b:Int))+1=(B:Int):=X;have aI:IntKind.u64.wrap (B:Int)=B:=by rw[XZ];omega
  clear hB;rcases k6 with k6|k6
  all_goals
   subst k6;clear k1 k3 k4 k5 av ax ay az;go_wp2_with fail;refine aC.mono ?_;rintro e z ⟨rfl,rfl⟩;go_wp2;refine Zf ?_;refine qA6 ?_;refine qJ (λx hx=>u.out x) ?_;refine qJ (λx hx=>v.out x) ?_;refine KX ?_;refine X6 ?_;intro w5 ag;have K:=aO A ag;go_wp2;go_ret;exact⟨mg (by rw[f.out]),K⟩
 have aF:(kind==6)=false:=Qi;have aG:(kind==10)=false:=Qi;rw[Zk k6]at f;by_cases k7:kind=7
 .subst k7;have k:Qm (∀(a b:Nat),a<=bO->b<=bO->∀x,Cb 112 #[I Qp a,I Qp b] x (I Qp (cO a b:Nat))):=λa b p q x=>(i a b p q x).mono (λ_ _ h=>⟨h.1,by rw[h.2];exact Za _ _⟩)
  have m:Qm (∀(a b:Nat),a<=bO->b<=bO->∀x,Cb 110 #[I Qp a,I Qp b] x (I Qp (bQ a b:Nat))):=λa b p q x=>(j a b p q x).mono (λ_ _ h=>⟨h.1,by rw[h.2];exact Za _ _⟩);have u:Qm (∀x,Cb 110 #[I Qp 2,I Qp ls] x (I Qp (bQ 2 ls:Nat))):=m.out 2 ls au h1;have v:=Zh (k.out n (bQ 2 ls) h2 D);clear i j k m D G HB k1 k3 k4 k5 k6 av ax ay az aF aG;go_wp2;refine Zf ?_;refine qA4 ?_;refine qJ (λx hx=>u.out x) ?_;refine qJ (λx hx=>v.out x) ?_;refine KX ?_;refine X6 ?_;intro w5 ag;have K:=aO A ag;go_wp2;go_ret;exact⟨mg (by rw[f.out];rfl),K⟩
 have aK:(kind==7)=false:=by simp[k7]
 rw[Zk k7]at f;go_wp2_with fail;refine(i n ls h2 h1 w3).mono ?_;rintro e z ⟨rfl,rfl⟩;go_wp2;go_ret;exact⟨mg (by rw[f.out]),A⟩
theorem VH{x y x' y':Int}{b b':Bool}(h:(x,y,b)=(x',y',b')):Ending.returned (Qv #[I J x,I J y,Qq b])=Qu (Qv #[I J x',I J y',Qq b']):=by grind
theorem ai2(ao aa ba:LM)(cap au5 Ux:Nat)(ts:JK af)(q:ae)(k:Nat)(A B:IC)(w:U)(hx:aZ w ao ts)(hc:gV ts=T)(hq:q.At w)(h5:N q.au.xs<=5)(ha:dm q.au.xs (N ts)=T)(hk:k<N q.wh)
  (mE:∀c∈bD (E q.wh k lz).cs,0<=c/\c<aX ts q.au.xs) (hA:aP w aa A) (hB:aP w ba B) :
  Calls V 114 #[Z ao (N ts) cap,Qt q.cells,I J k,Z aa (N A) au5,Z ba (N B) Ux] w λe w'=>
   e=Qu (Qv #[I J (kS ts q.au.xs (E q.wh k lz).cs A B).1,I J (kS ts q.au.xs (E q.wh k lz).cs A B).2.1,Qq (kS ts q.au.xs (E q.wh k lz).cs A B).2.2])/\Bw w w':=by
 have L:Qm (∀c∈bD (E q.wh k lz).cs,∀x,Bw w x->Cb 115 #[Z ao (N ts) cap,Qt q.cells,I J c] x (I J (aU ts q.au.xs c:Nat))):=λc hm x hb=>
  yQ ao cap ts q c x (hx.aj hb) hc (Zc hb hq.au) h5 ha (mE c hm).1 (mE c hm).2
 have ah:=hq.wh.1;obtain⟨wb,wo,Pq,z⟩:=Q3 hq.wh.2.1 hk;have i:=z k hk;have u:=hq.wh.2.2 k hk;clear z hq mE hc ha hx;have HA:Qm _:=hA;have HB:Qm _:=hB;clear hA hB;obtain⟨w1,P⟩:=eY (w.alloc (Qs q.cells 35));have m:Bw w w1:=by rw[P];exact fo _ _
 have kU:GB w1 (M (H w)) 35 q.cells:=by rw[P];exact qj _ _
 obtain⟨⟨WY,D5,xs⟩,iF,cZ,wh,aF,⟨ai,AZ,ak⟩,⟨av,La,ax⟩,⟨ay,Po,az⟩,⟨aB,Pp,aC⟩⟩:=q;unfold ae.cells aA.val at*;simp only at*;subst Pq;generalize E wh k lz=cl at*;obtain⟨ca,cc,cs⟩:=cl;unfold aQ.val at i;simp only at i u L ⊢;have a:Qm (kS ts xs cs A B=if (N cs)≠1∨(E cs 0 cz).not=T∨(E cs 0 cz).const=T∨(E cs 0 cz).op≠0 then (0,0,F)
  else if (aU ts xs (E cs 0 cz).left:Int)∈A/\(aU ts xs (E cs 0 cz).right:Int)∈B then ((E cs 0 cz).left,(E cs 0 cz).right,T)
  else ((E cs 0 cz).right,(E cs 0 cz).left,decide ((aU ts xs (E cs 0 cz).right:Int)∈A)&&decide ((aU ts xs (E cs 0 cz).left:Int)∈B))):=rfl
 generalize kS ts xs cs A B=SI at*;obtain⟨q0,q1,q2,q3,q4,q5,q6⟩:=kU.k7;have O5:=P.symm;have R:=cB m i;clear P kU i;have iX:=u.1;by_cases f:N cs=1
 .obtain⟨cb,co,rfl,c0,c1,c2,c3,c4⟩:=u.2 0 X;obtain⟨d0,d1,d2,d3,d4⟩:=qi m c0 c1 c2 c3 c4;have S:Qm (bD cs=bz (E cs 0 cz)):=by
   show _=_
   match cs,f with
   |[c],_=>simp[bD]
  clear c0 c1 c2 c3 c4 u;generalize E cs 0 cz=c at*;obtain⟨ag,op,left,p,right⟩:=c;simp only[X8,Xg]at d0 d1 d2 d3 d4 S a;have v:=L.o;rw[S.o]at v;unfold bz at v;simp only at v;have n:=Zh v;clear v L S iX;rw[f]at R
  cases ag with
  |true =>
   rw[Zd (.inr (.inl rfl))]at a;go_enter func114,ntmps114;go_wp2;go_ret3;exact⟨VH (by rw[a.o]),m⟩
  |false =>
   cases p with
   |true =>
    rw[Zd (.inr (.inr (.inl rfl)))]at a;go_enter func114,ntmps114;go_wp2;go_ret3;exact⟨VH (by rw[a.o]),m⟩
   |false =>
    by_cases o0:op=0
    .subst o0;rw[Zk Qb]at a;obtain⟨C,D⟩:=bH (n.o left (by rw[Zd ⟨X,rfl⟩];simp)) (n.o right (by rw[Zd ⟨X,rfl⟩];simp));clear n;generalize aU ts xs left=Xq,aU ts xs right=Yq at*;go_enter func114,ntmps114;go_wp2;refine Zf ?_;refine qA6 ?_;refine qJ (λx hx=>C.o x (aO m hx)) ?_;refine KX ?_;refine X6 ?_;intro w2 l;have k2:=aO m l;go_wp2;obtain⟨aD,aG,aH,aI,aJ,aK,aL,aM⟩:=Da l q0 q1 q2 q3 q4 q5 q6 d4;refine Zf ?_;refine qA6 ?_;refine qJ (λx hx=>D.o x (aO k2 hx)) ?_;refine KX ?_;refine X6 ?_;intro Q r;have W:=aO l r;have k3:=aO k2 r;clear l r k2 C D;obtain⟨aN,aR⟩:=kP W d2 d4;have GM:=oh aa au5 A (Xq:Int) Q (Zc k3 HA.o);have y:=oh ba Ux B (Yq:Int) Q (Zc k3 HB.o);have b:=oh aa au5 A (Yq:Int) Q (Zc k3 HA.o);have d:=oh ba Ux B (Xq:Int) Q (Zc k3 HB.o);go_wp2_with fail;refine GM.mono ?_;rintro e w4 ⟨rfl,rfl⟩;clear GM;go_wp2_with fail;refine y.mono ?_;rintro e w5 ⟨rfl,rfl⟩;clear y;by_cases g:(Xq:Int)∈A/\(Yq:Int)∈B
     .rw[Zd g]at a;rw[Zl g.1,Zl g.2];clear b d;go_wp2;go_quiet (fail);go_wp2;go_ret3;exact⟨VH (by rw[a.o]),Zg k3 _⟩
     .rw[Zk g]at a;obtain⟨t,G⟩:=eY (decide ((Xq:Int)∈A))
      obtain⟨K,j⟩:=eY (decide ((Yq:Int)∈B));have iZ:(t&&K)=false:=by grind
      rw[<-G,<-j];clear G j g;generalize decide ((Yq:Int)∈A)=p3 at b a;generalize decide ((Xq:Int)∈B)=p4 at d a;have fin:∀(t K:Bool),(t&&K)=F->t=T->K=false:=λt K h e=>by rw[e]at h;simpa using h
      cases t with
      |false =>
       clear iZ fin;go_wp2_with fail;refine b.mono ?_;rintro e w6 ⟨rfl,rfl⟩;clear b;go_wp2_with fail;refine d.mono ?_;rintro e w7 ⟨rfl,rfl⟩;clear d
       cases p3 with
       |false =>
        go_wp2;go_quiet (fail);go_wp2;go_ret3;exact⟨VH (by rw[a.o];rfl),Zg k3 _⟩
       |true =>
        go_wp2;go_quiet (fail);go_wp2;go_ret3;exact⟨VH (by rw[a.o];rfl),Zg k3 _⟩
      |true =>
       have j:=fin _ _ iZ rfl;subst j;clear iZ fin;go_wp2_with fail;refine b.mono ?_;rintro e w6 ⟨rfl,rfl⟩;clear b;go_wp2_with fail;refine d.mono ?_;rintro e w7 ⟨rfl,rfl⟩;clear d
       cases p3 with
       |false =>
        go_wp2;go_quiet (fail);go_wp2;go_ret3;exact⟨VH (by rw[a.o];rfl),Zg k3 _⟩
       |true =>
        go_wp2;go_quiet (fail);go_wp2;go_ret3;exact⟨VH (by rw[a.o];rfl),Zg k3 _⟩
    .have b0:(op != 0)=true:=by simp[o0]
     rw[Zd (.inr (.inr (.inr o0)))]at a;go_enter func114,ntmps114;go_wp2;go_ret3;exact⟨VH (by rw[a.o]),m⟩
 .rw[Zd (.inl f)]at a;have b1:((N cs:Int) != 1)=true:=Qi
  clear u L;generalize N cs=cn at*;go_enter func114,ntmps114;go_wp2;go_ret3;exact⟨VH (by rw[a.o]),m⟩
theorem au6(k:Int):1<=bg k↔k≠1:=by
 unfold bg;split
 .omega
 .split <;> omega
theorem am3(k:Int):2<=bg k↔3<=k/\k<=5:=by
 unfold bg;split
 .omega
 .split <;> omega
def aqC(n:ay):fK n=decide ((n.kind≠1∨n.l=0)/\((3<=n.kind/\n.kind<=5)∨n.r=0)/\(n.kind=1∨n.source=0)/\(n.kind=4∨n.kind=5∨n.key=0)/\
  (n.kind=2∨3<=n.kind/\n.kind<=5∨N n.cl.xs=0)/\(n.kind=6↔(N n.co.xs)≠0)):=by unfold fK;simp only[au6,am3]
theorem zero_or{P:Prop}(x:Int)(bad:x≠0->(x==0)=F->(x != 0)=T->P)(aDu:x=0->(x==0)=T->(x != 0)=F->P):P:=by grind
theorem TL(n:ay)(w:U):Cb 72 #[Qt n.cells] w (Qq (fK n)):=by
 have d:Qm _:=aqC n;generalize fK n=P at d ⊢;obtain⟨kind,l,r,source,⟨u,v,m⟩,key,⟨y,z,p⟩⟩:=n;unfold ay.cells aA.val;simp only at d ⊢;generalize N m=a,N p=b at*;by_cases f:kind=1;subst f;refine zero_or l ?_ ?_
 rotate_left
 intro _ _ _;refine zero_or r ?_ ?_
 rotate_left
 intro _ _ _;refine zero_or key ?_ ?_
 rotate_left
 intro _ _ _;refine zero_or (a:Int) ?_ ?_
 rotate_left
 intro _ _ _;refine zero_or (b:Int) ?_ ?_
 rotate_left
 intro _ _ _
 rotate_left
 have g:(kind==1)=false:=by simp[f]
 by_cases k2:kind=2;subst k2;refine zero_or source ?_ ?_
 rotate_left
 intro _ _ _;refine zero_or r ?_ ?_
 rotate_left
 intro _ _ _;refine zero_or key ?_ ?_
 rotate_left
 intro _ _ _;refine zero_or (b:Int) ?_ ?_
 rotate_left
 intro _ _ _;refine zero_or (a:Int) ?_ ?_
 rotate_left
 intro _ _ _
 rotate_left
 by_cases k3:kind=3;subst k3;refine zero_or source ?_ ?_
 rotate_left
 intro _ _ _;refine zero_or key ?_ ?_
 rotate_left
 intro _ _ _;refine zero_or (b:Int) ?_ ?_
 rotate_left
 intro _ _ _;refine zero_or (a:Int) ?_ ?_
 rotate_left
 intro _ _ _
 rotate_left
 by_cases k4:kind=4;subst k4;refine zero_or source ?_ ?_
 rotate_left
 intro _ _ _;refine zero_or (b:Int) ?_ ?_
 rotate_left
 intro _ _ _;refine zero_or (a:Int) ?_ ?_
 rotate_left
 intro _ _ _
 rotate_left
 by_cases k5:kind=5;subst k5;refine zero_or source ?_ ?_
 rotate_left
 intro _ _ _;refine zero_or (b:Int) ?_ ?_
 rotate_left
 intro _ _ _;refine zero_or (a:Int) ?_ ?_
 rotate_left
 intro _ _ _
 rotate_left
 by_cases k6:kind=6;subst k6;refine zero_or source ?_ ?_
 rotate_left
 intro _ _ _;refine zero_or r ?_ ?_
 rotate_left
 intro _ _ _;refine zero_or key ?_ ?_
 rotate_left
 intro _ _ _;refine zero_or (b:Int) ?_ ?_;intro _ _ _;refine zero_or (a:Int) ?_ ?_
 rotate_left 3
 have i:(kind==2)=false:=by simp[k2]
 have j:(kind==3)=false:=by simp[k3]
 have k:(kind != 6)=true:=by simp[k6]
 by_cases q:kind<3;have e:¬3<=kind:=X;refine zero_or source ?_ ?_
 rotate_left
 intro _ _ _;refine zero_or r ?_ ?_
 rotate_left
 intro _ _ _;refine zero_or key ?_ ?_
 rotate_left
 intro _ _ _;refine zero_or (b:Int) ?_ ?_
 rotate_left
 intro _ _ _;refine zero_or (a:Int) ?_ ?_
 rotate_left
 intro _ _ _
 rotate_left
 have e:3<=kind:=X;have t:¬kind<=5:=X;refine zero_or source ?_ ?_
 rotate_left
 intro _ _ _;refine zero_or r ?_ ?_
 rotate_left
 intro _ _ _;refine zero_or key ?_ ?_
 rotate_left
 intro _ _ _;refine zero_or (b:Int) ?_ ?_
 rotate_left
 intro _ _ _;refine zero_or (a:Int) ?_ ?_
 rotate_left
 intro _ _ _
 rotate_left
 all_goals
  intros
  go_enter func72,ntmps72;go_wp2;go_ret;exact⟨QZ (by rw[d.o];symm;first|exact Zl X|exact ZK X|exact Zl (by simp <;> omega)|grind),(Za _ _).alloc (Zb _) _⟩
def JV:=@zero_or
structure am4(w:U)(b:Nat)(ao:LM)(cap:Nat)(ts:JK af)(q:ae):Prop where
 c0:Qo w (aD b 0)=O (Z ao (N ts) cap)
 c1:Qo w (aD b 1)=O q.au.val
 c2:Qo w (aD b 2)=O (Z q.iF (N q.wh) q.cZ)
 c3:Qo w (aD b 3)=O (Qq q.aF)
 c4:Qo w (aD b 4)=O q.aC.val
 c5:Qo w (aD b 5)=O q.aM.val
 c6:Qo w (aD b 6)=O q.bA.val
 c7:Qo w (aD b 7)=O q.ord.val
def OC(ts:JK af)(q:ae)(l ah:IC)(i:Nat):Bool:=decide (0<=E l i 0)&&decide (E l i 0<N q.wh)&&(decide (i=0) ||decide (E l (i-1) 0<E l i 0))&&jy ts q.au.xs (E q.wh (E l i 0).toNat lz).cs ah
def Lx(hi:i<n)(h:p i=F):F=(List.range n).all p:=by symm;rw[List.all_eq_false];exact⟨i,Xd.2 hi,by rw[h];simp⟩
def OD(h:∀i,i<n->p i=T):T=(List.range n).all p:=by symm;rw[Q9];exact λi a=>h i (Xd.1 a)
def aeP(b:Nat)(ao lo so:LM)(cap aAt Ac:Nat)(ts:JK af)(q:ae)(l ss:IC)(w:U)(ht:am4 w b ao cap ts q)(hx:aZ w ao ts)(hk:Chk ts q)(hq:q.At w)(hll:aP w lo l)(hss:aP w so ss) :
  Cb 77 #[Y (O (aD b 0)),Z lo (N l) aAt,Z so (N ss) Ac] w (Qq (jI ts q l ss)):=by
 have D:Qm (∀k:Nat,k<N q.wh->∀x,Bw w x->Cb 80 #[Z ao (N ts) cap,Qt q.cells,I J k,Z so (N ss) Ac] x (Qq (jy ts q.au.xs (E q.wh k lz).cs ss))):=λk P x f=>
  MR ao so cap Ac ts q k ss x (hx.aj f) hk.qP (hq.aj f) hk.jM hk.au P (hk.bU k P) (hk.amc k P) (Zc f hss)
 have S:Qm (jI ts q l ss=(List.range (N l)).all (OC ts q l ss)):=rfl;have G:Qm (∀i,OC ts q l ss i=(decide (0<=E l i 0)&&decide (E l i 0<N q.wh)&&(decide (i=0) ||decide (E l (i-1) 0<E l i 0))&&jy ts q.au.xs (E q.wh (E l i 0).toNat lz).cs ss)):=λ_=>rfl;generalize OC ts q l ss=LA,jI ts q l ss=LB at*;have aa:=hq.wh.1;have F9:=hll.1;have Sd:=Zh hll;obtain⟨t0,t1,t2,t3,t4,t5,t6,t7⟩:=ht;clear hx hk hq hss hll;obtain⟨⟨WY,D5,xs⟩,iF,cZ,A,aF,⟨av,AZ,ax⟩,⟨ay,La,az⟩,⟨aB,Po,aC⟩,⟨aG,Pp,aH⟩⟩:=q;unfold ae.cells aA.val at*;simp only at*;go_enter func77,ntmps77;go_wp2;go_loopw [7] (λQ wr=>∃i:Nat,i<=N l/\Q=I J i/\Qm (∀j,j<i->LA j=T)/\Bw w wr) (λQ _=>N l-(intOf Q).toNat)
 case atStart=>exact⟨0,ZR _,rfl,λj C=>absurd C X,Za _ _⟩
 case round=>
  obtain⟨i,hi,rfl,HA,u⟩:=hrel;by_cases R:i<N l
  .obtain⟨lb,aI,rfl,t⟩:=Q4 Sd.o R;obtain⟨v,u2⟩:=kP u (t i R) t2;have g:=Zh (G.o i);have HP:=Zh λm (B:i=m+1)=>cB u (t m X)
   have d:Qm (LA i=F->LB=F):=λe=>by rw[S.o];exact(Lx R e).symm
   have z:=Zh u;generalize E l i 0=x at*;obtain⟨wq,L⟩:=eY (wr);subst L;clear t u;go_wp2_with fail;refine wH wq λa=>?_;refine IU 0 a ?_;rcases Int.lt_or_le x 0 with n0|n0
   all_goals refine Co 4 a ?_
   .refine wS9 6 a ?_;refine wS2 15 a ?_;refine Co 17 a ?_;refine wS9 19 a ?_;refine wS5 28 a ?_;refine rR 33 a ?_;refine wD ?_;obtain⟨y,p⟩:=bH (d.o (by rw[g.o,ZK X];rfl)) (aO z.o a);clear a;go_wp2;go_ret;exact⟨QZ y.o.symm,p.o⟩
   refine wB9 6 a ?_;refine wB1 15 a ?_;rcases Int.lt_or_le x (N A) with n1|n1
   all_goals
    refine wB1 16 a ?_;refine Co 17 a ?_
   rotate_left
   .refine wS9 19 a ?_;refine wS5 28 a ?_;refine rR 33 a ?_;refine wD ?_;obtain⟨y,p⟩:=bH (d.o (by rw[g.o,ZK (show ¬x<N A by omega),Bool.and_false];rfl)) (aO z.o a);clear a;go_wp2;go_ret;exact⟨QZ y.o.symm,p.o⟩
   obtain⟨k,rfl⟩:∃k:Nat,x=(k:Int):=⟨x.toNat,X⟩;have n:Qm (LA i=((decide (i=0) ||decide (E l (i-1) 0<(k:Int)))&&jy ts xs (E A k lz).cs ss)):=by show _=_;rw[g.o,XY,Zl n0,Zl n1];rfl
   have HC:=Zh (D.o k X);generalize jy ts xs (E A k lz).cs ss=wv at*;clear g;rcases Jd 0 i with i0|i0
   all_goals refine wB3 19 a ?_
   rotate_left
   refine wS9 22 a ?_;refine wS1 31 a ?_;have r:LA i=wv:=by rw[n.o,Zl X];rfl
   rotate_left
   obtain⟨m,B⟩:∃m,i=m+1:=⟨i-1,X⟩;have ag:=HP.o m B;rw[show i-1=m by omega]at n;have ah:IntKind.i64.wrap ((i:Int)-1)=(m:Int)/\wrap64 ((i:Int)-1)=(m:Int)/\m<N l:=by rw[IntKind.wrap_i64];unfold wrap64;omega
   have ai:=Zh B;generalize E l m 0=pv at*;clear B;refine wB9 22 a ?_;rcases Int.lt_or_le pv k with n2|n2
   rotate_left
   .refine wB2 31 a ?_;refine rR 33 a ?_;refine wD ?_;obtain⟨y,p⟩:=bH (d.o (by rw[n.o,ZK X,ZK X];rfl)) (aO z.o a);clear a;go_wp2;go_ret;exact⟨QZ y.o.symm,p.o⟩
   rotate_left
   refine wB1 31 a ?_;have r:LA i=wv:=by rw[n.o,Zl n2,Bool.or_true,Zm]
   all_goals
    refine wB1 32 a ?_;refine rR 33 a ?_;refine wD ?_;have W:=Zh r;have f:=aO z.o a;have v0:=cB f t0;obtain⟨v1,v2,v3,v4,v5,v6,v7⟩:=aou f t1 t2 t3 t4 t5 t6 t7;have ak:=cB a v;have p:=Zh f;clear a v u2 f r;generalize wq.drew=wy at*;go_wp2_with fail;refine wH wy λa=>?_;refine GZ 0 a ?_;refine wA3 10 a ?_;refine wR 13 λK hK=>?_;go_simp;refine mR (HC.o _ (aO p.o a)) λwz f=>?_;refine oT hK a f λa=>?_;clear hK K;refine rR 14 a ?_;refine wD ?_;have HZ:=Zh (aO p.o a);clear a;cases wv
    .go_wp2;go_ret;exact⟨QZ (d.o W.o).symm,HZ.o⟩
    .refine gQ ?_;exact⟨i+1,X,Qe,λj C=>by
      rcases Nat.lt_or_eq_of_le (Nat.le_of_lt_succ C) with h|rfl
      .exact HA.o j h
      .exact W.o,HZ.o⟩
  .have e:i=N l:=X
   have HT:=Zh (by rw[S.o];exact(OD (λj C=>HA.o j X)).symm:LB=T)
   go_wp2;go_ret;exact⟨QZ HT.o.symm,u⟩
def TQ(w:U)(x:Int)(t:TypeId):aP (w.alloc (Qs #[I J x] t)) (O (aD (M (H w)) 0)) [x]:=by
 refine⟨Qa,λi b=>⟨M (H w),0,rfl,?_⟩⟩;have a:i=0:=by simpa using b
 subst a;have g:GB (w.alloc (Qs #[I J x] t)) (M (H w)) t #[I J x]:=qj _ _;exact g.cell 0
def abr(w:U)(a b c d:Array Ql)(ta tb tc td:TypeId){w1:U}(h:w1=(((w.alloc (Qs a ta)).alloc (Qs b tb)).alloc (Qs c tc)).alloc (Qs d td)) :
  Bw w w1/\GB w1 (M (H w)) ta a/\GB w1 (M (H w)+1) tb b/\GB w1 (M (H w)+2) tc c/\GB w1 (M (H w)+3) td d/\M (H w1)=M (H w)+4:=by
 subst h;refine⟨aO (fo _ _) (aO (fo _ _) (aO (fo _ _) (fo _ _))),?_,?_,?_,?_,Qa⟩
 .show _=_
  rw[ZF Qi,ZF Qi,ZF Qa,qj]
 .show _=_
  have:=qj (w.alloc (Qs a ta)) (Qs b tb);rw[XM]at this;rw[ZF Qa,ZF Qa,this]
 .show _=_
  have:=qj ((w.alloc (Qs a ta)).alloc (Qs b tb)) (Qs c tc);rw[XM,XM]at this;rw[ZF Qa,this]
 .show _=_
  have:=qj (((w.alloc (Qs a ta)).alloc (Qs b tb)).alloc (Qs c tc)) (Qs d td);rw[XM,XM,XM]at this;exact this
def anb(b:Nat)(ao:LM)(cap:Nat)(ts:JK af)(q:ae)(n:ay)(l r:bN)(w:U)(ht:am4 w b ao cap ts q)(hx:aZ w ao ts)(hk:Chk ts q)(hq:q.At w)
  (iX:n.cl.At w) (EU:n.co.At w) (CW:l.s.At w) (Aw:l.o.At w) (hrs:r.s.At w) (hro:r.o.At w) (hlc:N l.c.xs<=1000) (hkey:n.key∈n.cl.xs->0<=n.key/\n.key<N q.wh) :
  Cb 78 #[Y (O (aD b 0)),Qt n.cells,Qt l.cells,Qt r.cells] w (Qq (Fu ts q n l.d r.d)):=by
 have Pb:Qm (∀k:Nat,k<N q.wh->∀x,Bw w x->Calls V 114 #[Z ao (N ts) cap,Qt q.cells,I J k,Z l.s.ad (N l.s.xs) l.s.cap,Z r.s.ad (N r.s.xs) r.s.cap] x λe w'=>
   e=Qu (Qv #[I J (kS ts q.au.xs (E q.wh k lz).cs l.s.xs r.s.xs).1,I J (kS ts q.au.xs (E q.wh k lz).cs l.s.xs r.s.xs).2.1,Qq (kS ts q.au.xs (E q.wh k lz).cs l.s.xs r.s.xs).2.2])/\Bw x w'):=λk yt x u=>
  ai2 ao l.s.ad r.s.ad cap l.s.cap r.s.cap ts q k l.s.xs r.s.xs x (hx.aj u) hk.qP (hq.aj u) hk.jM hk.au yt (hk.bU k yt) (Zc u CW) (Zc u hrs)
 have Df:Qm (∀c,0<=c->c<aX ts q.au.xs->∀x,Bw w x->Cb 115 #[Z ao (N ts) cap,Qt q.cells,I J c] x (I J (aU ts q.au.xs c:Nat))):=λc h0 h1 x u=>
  yQ ao cap ts q c x (hx.aj u) hk.qP (Zc u hq.au) hk.jM hk.au h0 h1
 have aI:Qm (∀x,Bw w x->Cb 58 #[Z ao (N ts) cap,Qt q.cells,I J (N q.au.xs)] x (I J (aX ts q.au.xs))):=λx u=>
  RY ao cap ts q x (hx.aj u) hk.qP (Zc u hq.au) hk.jM hk.au
 have f:Qm (Fu ts q n l.d r.d=if n.kind=2 then decide (0<N n.cl.xs)
  else if n.kind=4∨n.kind=5 then
   decide (n.key∈n.cl.xs)&&(kS ts q.au.xs (E q.wh n.key.toNat lz).cs l.s.xs r.s.xs).2.2 &&
    (decide (n.kind=4) ||(aN l.o.xs [(kS ts q.au.xs (E q.wh n.key.toNat lz).cs l.s.xs r.s.xs).1]&&aN r.o.xs [(kS ts q.au.xs (E q.wh n.key.toNat lz).cs l.s.xs r.s.xs).2.1]))
  else if n.kind=6 then dm n.co.xs (aX ts q.au.xs)&&dK n.co.xs&&n.co.xs.all λc=>decide ((aU ts q.au.xs c:Int)∈l.s.xs)
  else if n.kind=7 then q.aF&&(decide (N l.s.xs=N q.au.xs)&&decide (N l.c.xs=N q.wh))
  else if n.kind=8 then q.aF&&(decide (N l.s.xs=N q.au.xs)&&decide (N l.c.xs=N q.wh))&&aN l.o.xs q.aC.xs
  else if n.kind=9 then !q.aF&&(decide (N l.s.xs=N q.au.xs)&&decide (N l.c.xs=N q.wh))
  else if n.kind=10 then decide (0<N q.ord.xs)
  else T):=rfl
 generalize Fu ts q n l.d r.d=KB at f ⊢;have h5:=hk.jM;have h8:=hk.ko;have ag:=hq.aC;have Lb:=hq.ord.1;have bf:=mH hk.qP hk.au (N q.au.xs) (Zb _);rw[Z0]at bf;obtain⟨t0,t1,t2,t3,t4,t5,t6,t7⟩:=ht;clear hx hk hq;obtain⟨kind,nl,nr,source,⟨KL,KM,uD⟩,key,⟨E5,E8,m⟩⟩:=n;obtain⟨⟨aQ,aR,D⟩,⟨Wi,Wj,tK⟩,⟨KO,R,DK⟩,uS,Wl,Wm⟩:=l;obtain⟨⟨VK,VL,qM⟩,⟨Ri,bE,ui⟩,⟨Pd,Pe,LD⟩,sV,Rj,Rk⟩:=r;obtain⟨⟨WY,D5,xs⟩,iF,cZ,wh,aF,⟨aS,AZ,aG⟩,⟨bF,La,bG⟩,⟨bH,Po,bI⟩,⟨bJ,Pp,aV⟩⟩:=q;unfold ae.cells ay.cells bN.cells aA.val aA.At at*;simp only at*;obtain⟨w1,dB⟩:=eY ((((w.alloc (Qs #[I J kind,I J nl,I J nr,I J source,Z KL (N uD) KM,I J key,Z E5 (N m) E8] 43)).alloc (Qs #[Z aQ (N D) aR,Z Wi (N tK) Wj,Z KO (N DK) R,Qq uS,I Qp (Wl:Int),I Qp (Wm:Int)] 67)).alloc (Qs #[Z VK (N qM) VL,Z Ri (N ui) bE,Z Pd (N LD) Pe,Qq sV,I Qp (Rj:Int),I Qp (Rk:Int)] 67)).alloc (Qs #[Z WY (N xs) D5,Z iF (N wh) cZ,Qq aF,Z aS (N aG) AZ,Z bF (N bG) La,Z bH (N bI) Po,Z bJ (N aV) Pp] 35));obtain⟨g,gN,gL,gR,gQ,tq⟩:=abr w _ _ _ _ _ _ _ _ dB;have O5:=dB.symm;have n0:=gN.at 0;have n4:=gN.at 4;have n5:=gN.at 5;have n6:=gN.at 6;obtain⟨l0,l1,l2⟩:=gL.k3;have r0:=gR.at 0;have r2:=gR.at 2;obtain⟨q0,q1,q2,q3,q4,q5,q6⟩:=gQ.k7;clear gN gL gR gQ dB tq;have Tq:=λ(o1 o2 o3:Obj)=>aou (aO (fo w o1) (aO (fo _ o2) (fo _ o3))) t1 t2 t3 t4 t5 t6 t7;have u0:=cB g t0;go_enter func78,ntmps78;go_upto_region 2 with fail;clear O5 t1 t2 t3 t4 t5 t6 t7 Tq;obtain⟨G,t⟩:∃x,x=(decide (N D=N xs)&&decide (N tK=N wh)):=⟨_,rfl⟩;rw[<-t]at f;have ah:=Zh t;clear t;have bO:=CW.1;go_cut [10] from 27 to 42 (λc wx=>c=Qq G/\w1=wx)
 case first=>
  by_cases hS:N D=N xs
  .have bg:((N D:Int)==N xs)=true:=by simp[hS]
   by_cases hC:N tK=N wh
   .have bn:((N tK:Int)==N wh)=true:=by simp[hC]
    go_wp2_with fail;go_meet;exact⟨by rw[ah.o,Zl hS,Zl hC];rfl,rfl⟩
   .have bn:((N tK:Int)==N wh)=false:=Qi
    go_wp2_with fail;go_meet;exact⟨by rw[ah.o,Zl hS,ZK hC];rfl,rfl⟩
  .have bg:((N D:Int)==N xs)=false:=Qi
   go_wp2_with fail;go_meet;exact⟨by rw[ah.o,ZK hS];rfl,rfl⟩
 case rest=>
 obtain⟨rfl,rfl⟩:=hcut;have L:∀j:Int,kind≠j->(kind==j)=false:=λj h=>by simp[h]
 by_cases k2:kind=2
 .subst k2;rw[Zd rfl]at f;by_cases oq:0<N uD
  .rw[Zl oq]at f;go_wp2;go_ret;exact⟨QZ f.o.symm,g⟩
  .rw[ZK oq]at f;go_wp2;go_ret;exact⟨QZ f.o.symm,g⟩
 rw[Zk k2]at f;have bP:=L 2 k2;by_cases C:kind=4∨kind=5
 .rw[Zd C]at f;have bQ:(kind==4)=decide (kind=4):=by by_cases h:kind=4 <;> simp[h]
  have GM:=oh KL KM uD key w1 (Zc g iX);have bM:∀(P:Prop),P->P:=λ_ h=>h;by_cases K:key∈uD
  .rw[Zl K]at GM f;obtain⟨kn,bK⟩:∃kn:Nat,key=(kn:Int):=⟨key.toNat,Qj ((hkey K).1)⟩
   have bq:kn<N wh:=Qj ((hkey K).2);subst bK;rw[XY]at f;have aJ:=Zh (Pb.o kn bq);generalize kS ts xs (E wh kn lz).cs D qM=si at*;obtain⟨a,c,ok⟩:=si;simp only at aJ f;have bu:Qm (∀x,Bw w1 x->Calls V 79 #[Z KO (N DK) R,Z (O (aD (M (H x)) 0)) 1 1] (x.alloc (Qs #[I J a] 3)) λe w'=>e=Qu (Qq (aN DK [a]))/\Bw x w'):=λx u=>
    (vB KO (O (aD (M (H x)) 0)) R 1 DK [a] _ (Zc (aO g (aO u (fo _ _))) Aw) (TQ x a _)).mono (λ_ _ h=>⟨h.1,aO (fo _ _) h.2⟩)
   have bz:Qm (∀x,Bw w1 x->Calls V 79 #[Z Pd (N LD) Pe,Z (O (aD (M (H x)) 0)) 1 1] (x.alloc (Qs #[I J c] 3)) λe w'=>e=Qu (Qq (aN LD [c]))/\Bw x w'):=λx u=>
    (vB Pd (O (aD (M (H x)) 0)) Pe 1 LD [c] _ (Zc (aO g (aO u (fo _ _))) hro) (TQ x c _)).mono (λ_ _ h=>⟨h.1,aO (fo _ _) h.2⟩)
   generalize aN DK [a]=sx,aN LD [c]=sy at*;rcases C with rfl|rfl
   all_goals
    go_wp2_with fail;refine GM.mono ?_;rintro e w2 ⟨rfl,rfl⟩;go_wp2;refine Zf ?_;refine qA4 ?_;refine KX ?_;refine qA6 ?_;refine qK (Qv #[I J a,I J c,Qq ok]) (λx (hx:Bw w2 x)=>aJ.o x (aO g hx)) ?_;refine qA6 ?_;refine KX ?_;refine X6 ?_;intro w3 y;have bR:=cB y l2;have ai:=bu.o w3 y;go_wp2_with fail;refine mR (show Calls _ _ _ _ _ from ai) λw4 aa=>?_;have ak:=aO y aa;have bS:=cB ak r2;have bA:=bz.o w4 ak;go_wp2_with fail;refine mR (show Calls _ _ _ _ _ from bA) λw5 bL=>?_;have aK:=aO ak bL;have bT:=cB aK n0;have bB:=aO g aK;cases ok <;> cases sx
    all_goals
     go_wp2;go_ret;exact⟨QZ (by rw[f.o];first|rfl|(cases sx <;> cases sy <;> rfl)|(cases sy <;> rfl)),bB⟩
  .rw[ZK K,Bool.false_and,Bool.false_and]at f;rw[ZK K]at GM;rcases C with rfl|rfl
   all_goals
    go_wp2_with fail;refine GM.mono ?_;rintro e w2 ⟨rfl,rfl⟩;go_wp2;go_ret;exact⟨QZ f.o.symm,g⟩
 rw[Zk C]at f;have av:=L 4 (λe=>C (.inl e));have bV:=L 5 (λe=>C (.inr e));clear Pb hkey;by_cases k6:kind=6
 .subst k6;rw[Zd rfl]at f;clear L;have PQ:Qm (∀x,Bw w x->Cb 57 #[Z E5 (N m) E8,I J (aX ts xs)] x (Qq (dm m (aX ts xs)))):=λx u=>
   (yP E5 E8 m (aX ts xs) x (Zc u EU)).mono (λ_ _ h=>⟨h.1,by rw[h.2];exact Za _ _⟩)
  have ax:Qm (∀x,Bw w x->Cb 61 #[Z E5 (N m) E8] x (Qq (dK m))):=λx u=>
   (Hf E5 E8 m x (Zc u EU)).mono (λ_ _ h=>⟨h.1,by obtain⟨k,e⟩:=h.2;rw[e];exact Zg (Za _ _) _⟩)
  have az:Qm (dm m (aX ts xs)=T->∀i,i<N m->0<=E m i 0/\E m i 0<aX ts xs):=λh i hi=>by
   have:=qR h hi;have e:E m i 0=m[i]:=by simp[List.getD,hi]
   rw[e];exact this
  generalize aX ts xs=W at*;generalize dm m W=A at PQ az f;generalize dK m=B at ax f;have bW:=EU.1;go_wp2;refine Zf ?_;refine qA6 ?_;refine KX ?_;refine qA3 ?_;refine qK (I J W) (λx (hx:Bw w1 x)=>aI.o x (aO g hx)) ?_;refine qK (Qq A) (λx (hx:Bw w1 x)=>PQ.o x (aO g hx)) ?_;refine KX ?_;refine X6 ?_;intro w2 z;have v:=aO g z;have Q:=cB z n6;have aL:=ax.o w2 v;clear PQ aI ax;go_wp2_with fail;refine mR (show Calls _ _ _ _ _ from aL) λw3 y=>?_;clear aL Q;have aM:=aO z y;have k3:=aO v y;clear z y v;have Q:=cB aM n6
  cases A with
  |false =>
   go_wp2;go_ret;exact⟨QZ (by rw[f.o];rfl),k3⟩
  |true =>
   cases B with
   |false =>
    go_wp2;go_ret;exact⟨QZ (by rw[f.o];rfl),k3⟩
   |true =>
    have bC:=Zh (az.o rfl);have Bl:Qm (KB=m.all λc=>decide ((aU ts xs c:Int)∈D)):=by show _=_;rw[f.o];rfl
    clear az f;go_wp2;clear Q;go_loopw [19] (λiv wr=>∃i:Nat,i<=N m/\iv=I J i/\Qm (((m.take i).all λc=>decide ((aU ts xs c:Int)∈D))=T)/\Bw w1 wr) (λiv _=>N m-(intOf iv).toNat)
    case atStart=>exact⟨0,ZR _,rfl,rfl,aM⟩
    case round=>
     obtain⟨i,hi,rfl,HA,eD⟩:=hrel;have Q:=cB eD n6;by_cases aT:i<N m
     .obtain⟨lb,lo,rfl,aW⟩:=Q4 EU aT;have kr:=aO g eD;have bX:=cB kr (aW i aT);have y0:=cB eD u0;have yq:=aou eD q0 q1 q2 q3 q4 q5 q6;clear aW;have aB:=bC.o i aT;obtain⟨aY,HT,HF⟩:=lX (Df.o (E m i 0) aB.1 aB.2) (xn (p:=λc=>decide ((aU ts xs c:Int)∈D)) aT HA.o) (MP (p:=λc=>decide ((aU ts xs c:Int)∈D)) aT);clear HA aB;generalize E m i 0=cv at*;obtain⟨S,hS⟩:=eY (aU ts xs cv)
      simp only[<-hS]at aY HT HF;clear hS;go_wp2;refine Zf ?_;refine asM ?_;refine qK (I J S) (λx (hx:Bw wr x)=>aY.o x (aO kr hx)) ?_;refine KX ?_;refine X6 ?_;intro w4 aa;have av:=aO eD aa;have k4:=aO kr aa;have bY:=cB av l0;have GM:=oh aQ aR D (S:Int) w4 (Zc k4 CW);go_wp2_with fail;refine GM.mono ?_;rintro e w5 ⟨rfl,rfl⟩;by_cases K:(S:Int)∈D
      .rw[Zl K];refine gQ ?_;exact⟨i+1,X,Qe,HT.o (Zl K),av⟩
      .rw[ZK K];go_wp2;go_ret;exact⟨QZ (by rw[Bl.o];exact(HF.o (ZK K)).symm),k4⟩
     .have e:i=N m:=X
      have aP:=HA.o;rw[e,Z0]at aP;have ai:=Zh aP;go_wp2;go_ret;exact⟨QZ (by rw[Bl.o];exact ai.o.symm),aO g eD⟩
 rw[Zk k6]at f;have bZ:=L 6 k6;by_cases k7:kind=7
 .subst k7;rw[Zd rfl]at f
  cases aF with
  |true =>
   go_wp2;go_ret;exact⟨QZ (by rw[f.o];rfl),g⟩
  |false =>
   go_wp2;go_ret;exact⟨QZ (by rw[f.o];rfl),g⟩
 rw[Zk k7]at f;have cu:=L 7 k7;by_cases k8:kind=8
 .subst k8;rw[Zd rfl]at f;have bD:=vB KO aS R AZ DK aG w1 (Zc g Aw) (Zc g ag);generalize aN DK aG=sx at*;go_wp2_with fail;refine mR bD λw2 z=>?_
  have v:=aO g z;have cz:=cB z q2
  cases aF with
  |true =>
   cases G with
   |true =>
    go_wp2;go_ret;exact⟨QZ (by rw[f.o];rfl),v⟩
   |false =>
    go_wp2;go_ret;exact⟨QZ (by rw[f.o];rfl),v⟩
  |false =>
   go_wp2;go_ret;exact⟨QZ (by rw[f.o];rfl),v⟩
 rw[Zk k8]at f;have cK:=L 8 k8;by_cases k9:kind=9
 .subst k9;rw[Zd rfl]at f
  cases aF with
  |true =>
   go_wp2;go_ret;exact⟨QZ (by rw[f.o];rfl),g⟩
  |false =>
   go_wp2;go_ret;exact⟨QZ (by rw[f.o];rfl),g⟩
 rw[Zk k9]at f;have cO:=L 9 k9;by_cases aH:kind=10
 .subst aH;rw[Zd rfl]at f;by_cases oq:0<N aV
  .rw[Zl oq]at f;go_wp2;go_ret;exact⟨QZ f.o.symm,g⟩
  .rw[ZK oq]at f;go_wp2;go_ret;exact⟨QZ f.o.symm,g⟩
 rw[Zk aH]at f;have df:=L 10 aH;go_wp2;go_ret;exact⟨QZ f.o.symm,g⟩
section
theorem Gz(ts:JK af)(q:ae)(s c:IC):kM ts q s c<=bO:=by
 unfold kM;split
 .omega
 .have a:akr ts q c ((s.map (jZ ts q.au.xs)).foldl bQ 1)<=(s.map (jZ ts q.au.xs)).foldl bQ 1:=Hm ts q c _ (N q.wh);have b:=nK (s.map (jZ ts q.au.xs)) 1 (by grind [bO]);have d:(1:Nat)<=bO:=by grind [bO]
  omega
def abt(kind:Int)(s:Nat)(l r:dX):uF kind s l r<=bO:=by
 unfold uF
 repeat' split
 all_goals exact xC _ _
structure LG(q:ae)(v:dX):Prop where
 jL:cK (N q.au.xs) v.ah
 AV:v.ah.Nodup
 uq:cK (N q.wh) v.aG
 Hd:v.aG.Nodup
 size:v.size<=bO
 aJ:v.aJ<=bO
def LG.zero(q:ae):LG q vz:=⟨(λx a=>by cases a),List.nodup_nil,(λx a=>by cases a),List.nodup_nil,ZR _,ZR _⟩
theorem LG.node{n:ay}{l r:dX}(hl:LG q l)(hr:LG q r)(h:oJ ts q n l r=O v):LG q v:=by
 rw[pJ]at h;split at h
 .rename_i nC
  injection h with h;subst h;unfold oP at nC;simp only[Q8]at nC;exact⟨hl.jL.with hr.jL,lQ hl.AV,(hl.uq.with hr.uq).with (qV nC.1.2),lQ (lQ hl.Hd),Gz _ _ _ _,abt _ _ _ _⟩
 .cases h
def LG.aqE(h:LG q v):N v.ah<=N q.au.xs:=Ha h.jL h.AV
def LG.au8(h:LG q v):N v.aG<=N q.wh:=Ha h.uq h.Hd
structure OH(w0:U)(ao po:LM)(ts:JK af)(q:ae)(pl:JK ay):Prop where
 qP:aZ w0 ao ts
 qC:q.At w0
 plan:fH w0 po pl
 wO:Chk ts q
 len:N pl<=64
structure fe(W:U)(b base:Nat)(tT tI:TypeId)(ao po:LM)(cap dR:Nat)(ts:JK af)(q:ae)(pl:JK ay)(seen:JK Nat)(sv:Ql):Prop where
 g:GB W b tT #[Z ao (N ts) cap,q.au.val,Z q.iF (N q.wh) q.cZ,Qq q.aF,q.aC.val,q.aM.val,q.bA.val,q.ord.val,Z po (N pl) dR,sv]
 own:W.ownsRow base tI 1 sv (N seen) ((seen.map λ(i:Nat)=>(i:Int)).map (Value.int J))
 lo:base<=b
variable {W W':U} {b base:Nat} {tT tI:TypeId} {ao po:LM} {cap dR:Nat} {ts:JK af} {q:ae} {pl:JK ay} {seen:JK Nat} {sv sv':Ql}
theorem fe.aj(h:fe W b base tT tI ao po cap dR ts q pl seen sv)(hb:Bw W W'):fe W' b base tT tI ao po cap dR ts q pl seen sv:=
 ⟨h.g.up hb,Ja h.own hb,h.lo⟩
theorem fe.iE(h:fe W b base tT tI ao po cap dR ts q pl seen sv):am4 W b ao cap ts q:=
 ⟨h.g.cell 0,h.g.cell 1,h.g.cell 2,h.g.cell 3,h.g.cell 4,h.g.cell 5,h.g.cell 6,h.g.cell 7⟩
def fe.ne(h:fe W b base tT tI ao po cap dR ts q pl seen sv)(ht:tI≠tT):sv.ownBlock≠O b:=λe=>by obtain⟨c,d⟩:=og h.own e;have a:=h.g;unfold GB at a;simp_all
def nS(W:U)(sv sv':Ql):Prop:=∀g,sv'.ownBlock=O g->sv.ownBlock=O g∨M (H W)<=g
def nS.refl(W:U)(sv:Ql):nS W sv sv:=λ_ h=>.inl h
def nS.trans{aAw:Ql}(h:nS W sv sv')(h':nS W' sv' aAw)(hs:M (H W)<=M (H W')):nS W sv aAw:=λg e=>by
 rcases h' g e with a|a
 .exact h g a
 omega
def Rest(b:Nat)(sv:Ql)(x:Nat):Prop:=x≠b/\sv.ownBlock≠O x
def Rest.next{x:Nat}(h:Rest b sv x)(hn:nS W sv sv')(hx:x<M (H W)):Rest b sv' x:=⟨h.1,λe=>by
 rcases hn x e with a|a
 .exact h.2 a
 .omega⟩
theorem fe.push(h:fe W b base tT tI ao po cap dR ts q pl seen sv)(ht:tI≠tT)(hb:Bw W Xq){w5:U}(kC:aB (λx=>sv.ownBlock≠O x) Xq w5)(mW:w5.ownsRow base tI 1 sv' (N ((seen.map λ(i:Nat)=>(i:Int))++[(i:Int)])) (((seen.map λ(i:Nat)=>(i:Int))++[(i:Int)]).map (Value.int J)))
  (jl:sv'.ownBlock=sv.ownBlock∨sv'.ownBlock=O (M (H Xq)+1)) {Yq:U} (hY:Yq=Qn w5 (aD b 9) sv') :
  fe Yq b base tT tI ao po cap dR ts q pl (seen++[i]) sv'/\nS W sv sv'/\aB (Rest b sv) W Yq/\(∀x,M (H W)<=x->x<M (H Xq)->Yq.heap[x]? = Xq.heap[x]?):=by
 have p:=h.ne ht;have m:=h.aj hb;have l:GB w5 b tT _:=m.g.of (kC.block b m.g.lt p);have y:=hb.size;have r:∀x,M (H W)<=x->sv.ownBlock≠O x:=λx k e=>by have:=(Xy h.own e).2;omega
 have d:∀x,x≠b->Yq.heap[x]? = w5.heap[x]?:=λx k=>by rw[hY];exact ZE k
 have z:=h.g.lt;refine⟨⟨?_,?_,h.lo⟩,?_,?_,?_⟩
 .rw[hY];exact l.set 9 sv'
 .have t:N ((seen.map λ(i:Nat)=>(i:Int))++[(i:Int)])=N (seen++[i]):=Qa
  have f:((seen.map λ(i:Nat)=>(i:Int))++[(i:Int)])=((seen++[i]).map λ(i:Nat)=>(i:Int)):=Qa;rw[t,f]at mW;have u:sv'.ownBlock≠O b:=λe=>by grind
  rw[hY];rcases mW.2 with⟨a,j⟩|⟨g,c,iw,a,j,h3,h4⟩
  .grind
  .refine⟨mW.1,.inr ⟨g,c,iw,a,j,?_,h4⟩⟩;have v:g≠b:=λe=>u (by rw[a,e];rfl)
   grind
 .intro g e
  grind
 .refine⟨?_,?_,?_,?_,λx k n=>?_⟩
  .rw[hY];exact kC.os.trans hb.os
  .rw[hY];exact kC.tape.trans hb.tape
  .rw[hY];exact kC.output.trans hb.output
  .have a:M (H Yq)=M (H w5):=Qf
   have:=kC.size;omega
  .rw[d x n.1,kC.block x X n.2,hb.block x k]
 .intro x a j;rw[d x X,kC.block x j (r x a)]
end
def bN.At(v:bN)(Zq:U):Prop:=(v.s.At Zq/\(v.s.ad=Qr->v.s.cap=0))/\(v.c.At Zq/\(v.c.ad=Qr->v.c.cap=0))/\v.o.At Zq
def xZ(n0 m:Nat)(b:Nat)(u:Ql)(x:Nat):Prop:=(x<n0∨m<=x)/\Rest b u x
structure VQ(St:U->JK Nat->Ql->Prop)(n0:Nat)(W:U)(b:Nat)(sv:Ql)(o:Option (dX × JK Nat))(e:Ending)(W':U):Prop where
 fu:aB (Rest b sv) W W'
 out:∃v:bN,e=Qu (Qv #[Qt v.cells,Qq o.isSome])/\∀x,o=O x->v.d=x.1/\∃u,St W' x.2 u/\nS W sv u/\∀Zq,aB (xZ n0 (M (H W)) b u) W' Zq->v.At Zq
def World.oI(W:U)(B:Nat)(v:bN):World:=
 Qn (Qn (Qn (Qn (Qn (Qn W (aD B 0) v.s.val) (aD B 1) v.c.val) (aD B 2) v.o.val) (aD B 3) (Qq v.out)) (aD B 4) (I Qp (v.size:Int))) (aD B 5) (I Qp (v.aJ:Int))
def World.VM{W:U}{B:Nat}{t:TypeId}{a0 a1 a2 a3 a4 a5:Ql}(h:GB W B t #[a0,a1,a2,a3,a4,a5])(v:bN):GB (World.oI W B v) B t v.cells:=
 (((((h.set 0 v.s.val).set 1 v.c.val).set 2 v.o.val).set 3 (Qq v.out)).set 4 (I Qp (v.size:Int))).set 5 (I Qp (v.aJ:Int))
def World.Ir(W:U)(B:Nat)(v:bN):aB (λx=>x≠B) W (World.oI W B v):=by unfold World.oI;exact(((((Xu _ (aD B 0) _ (λh=>h rfl)).trans (Xu _ (aD B 1) _ (λh=>h rfl))).trans (Xu _ (aD B 2) _ (λh=>h rfl))).trans (Xu _ (aD B 3) _ (λh=>h rfl))).trans (Xu _ (aD B 4) _ (λh=>h rfl))).trans (Xu _ (aD B 5) _ (λh=>h rfl))
def fe.but(h:fe W b base tT tI ao po cap dR ts q pl seen sv)(hk:aB (λy=>¬Rest b sv y) W W'):fe W' b base tT tI ao po cap dR ts q pl seen sv:=by
 refine⟨h.g.of (hk.block _ h.g.lt (λr=>r.1 rfl)),?_,h.lo⟩;rcases h.own.2 with⟨h1,h2⟩|⟨g,c,iw,h1,h2,h3,h4⟩
 .exact⟨h.own.1,.inl ⟨h1,h2⟩⟩
 .refine⟨h.own.1,.inr ⟨g,c,iw,h1,h2,?_,h4⟩⟩;rw[hk.block g (Xx.1 h3).1 (λr=>r.2 (by rw[h1];rfl))];exact h3
theorem fe.yA{w0:U}(h:fe W b (M (H w0)) tT tI ao po cap dR ts q pl seen sv):∀x,x<M (H w0)->Rest b sv x:=λx a=>
 ⟨Qj h.lo,λe=>Qj ((Xy h.own e).1)⟩
theorem anc(hd:seen.Nodup)(hl:∀x∈seen,x<n):N seen<=n:=by have h:=nX hl;grind [G9]
def Sn(n:Nat)(s:JK Nat):Prop:=∃d:JK Nat,d.Nodup/\(∀x∈d,x<n/\x∈s)/\N s<=N d+8
theorem Sn.len(h:Sn n s):N s<=n+8:=by obtain⟨d,a,b,f⟩:=h;have:=anc a λx e=>(b x e).1;omega
theorem Sn.app{t:JK Nat}(h:Sn n s)(ht:t.Nodup)(hn:∀x∈t,x<n/\x ∉ s):Sn n (s++t):=by obtain⟨d,f,g,k⟩:=h;refine⟨d++t,List.nodup_append.2 ⟨f,ht,λa i b j e=>(hn b j).2 (e ▸ (g a i).2)⟩,λx l=>?_,Qi⟩;grind
def Sn.push(h:Sn n s)(hi:i<n)(hn:i ∉ s):Sn n (s++[i]):=h.app Qa λx a=>Qf
theorem Sn.nil(n:Nat):Sn n []:=⟨[],List.nodup_nil,(λx a=>by cases a),Qa⟩
def Sn.one(hi:i<n):Sn n ([]++[i]):=(Sn.nil n).push hi Qa
def bN.At.zero(Zq:U):yC.At Zq:=⟨⟨⟨by simp[yC],λi a=>absurd a (by simp[yC])⟩,λ_=>rfl⟩,⟨⟨by simp[yC],λi a=>absurd a (by simp[yC])⟩,λ_=>rfl⟩,⟨by simp[yC],λi a=>absurd a (by simp[yC])⟩⟩
def VQ.no{St:U->JK Nat->Ql->Prop}(h:aB (Rest b sv) W Zq)(v:bN):VQ St n0 W b sv Qr (Qu (Qv #[Qt v.cells,Qq F])) Zq:=⟨h,v,rfl,λ_ h=>by cases h⟩
theorem VQ.lay{e:Ending}(hw:n0<=M (H W))(hT:fe W b n0 tT tI ao po cap dR ts q pl seen sv)(hX:aB (Rest b sv) W Xq)(hR:M (H W)<=R)(hRX:R<M (H Xq)){sv1:Ql}(hn:nS W sv sv1)(hr:aB (Rest b sv1) Xq W'->aB (Rest b sv) W W')
  (h:VQ (λZq s u=>fe Zq b n0 tT tI ao po cap dR ts q pl s u) n0 Xq b sv1 o e W') (hsv:sv1.ownBlock≠O R) (v:bN):VQ (λZq s u=>fe Zq b n0 tT tI ao po cap dR ts q pl s u) n0 W b sv o e (World.oI W' R v):=by
 have d:=World.Ir W' R v;have z:=hT.g.lt;have f:=hX.size;refine⟨(hr h.fu).dL d (λx j _=>by show x≠R;omega),?_⟩;obtain⟨k,l,m⟩:=h.out;refine⟨k,l,λx j=>?_⟩;obtain⟨n,u,p,i,hz⟩:=m x j;have A:u.ownBlock≠O R:=λe=>by
  rcases i R e with h|h
  .exact hsv h
  .omega
 refine⟨n,u,p.but (d.mono λy _ a e=>a (by grind [Rest])),hn.trans i f,λZq r=>hz Zq ?_⟩;refine aB.dL (d.mono (t:=xZ n0 (M (H Xq)) b u) λy _ a e=>?_) r (λy _ a=>⟨?_,a.2⟩)
 .have:=a.1;omega
 .have:=a.1;omega
theorem abv(h0:0<=k):(k∈seen.map λ(i:Nat)=>(i:Int))↔k.toNat∈seen:=by grind
def oW(ts:JK af)(q:ae)(pl:JK ay)(f i:Nat)(k:Int)(seen:JK Nat):Option (dX × JK Nat):=if k<0∨(i:Int)<=k∨k.toNat∈seen then Qr else iI ts q pl f k.toNat seen
def Tryz.L8:3≠97:=Qc
def uh{v:bN}(h:GB W B 67 v.cells):(loadVar 67 (aD B 0)).run V W=.ok (Qt v.cells) W:=by obtain⟨c0,a,c2,c3,c4,c5⟩:=h.k6;unfold bN.cells;simp[go_sem,c0,a,c2,c3,c4,c5]
def GB.f6(h:GB W B t c):W.frozen? (aD B 0)=F/\W.frozen? (aD B 1)=F/\W.frozen? (aD B 2)=F/\W.frozen? (aD B 3)=F/\W.frozen? (aD B 4)=F/\W.frozen? (aD B 5)=false:=⟨h.frozen 0,h.frozen 1,h.frozen 2,h.frozen 3,h.frozen 4,h.frozen 5⟩
def OI{fn:Func}{p u:Tmp}{ty:TypeId}(h:fn.results=#[.cell p ty,.tmp u]){tmps:Array Ql}{P:Program}{w:U}{B:Nat}{v x:Ql}(hp:tmps.getD p undef=Y (O (aD B 0)))(hu:tmps.getD u undef=x)(hl:(loadVar ty (aD B 0)).run P w=.ok v w) :
  (results fn tmps).run P w=.ok (Qv #[v,x]) w:=by rw[results_cell_tmp h,hp,hu];simp[go_sem]at hl ⊢;simp[hl]
def VC(w0:U)(b:Nat)(ao po:LM)(cap dR:Nat)(ts:JK af)(q:ae)(pl:JK ay)(f:Nat):Prop:=
 ∀(i:Nat) (W:U) (seen:JK Nat) (sv:Ql),i<f->i<N pl->fe W b (M (H w0)) 97 3 ao po cap dR ts q pl seen sv->Bw w0 W->Sn (N pl) (seen++[i])->
  Calls V 35 #[Y (O (aD b 0)),I J i] W (VQ (λZq s u=>fe Zq b (M (H w0)) 97 3 ao po cap dR ts q pl s u) (M (H w0)) W b sv (iI ts q pl f i seen))
theorem ai6(w0:U)(b:Nat)(ao po:LM)(cap dR:Nat)(ts:JK af)(q:ae)(pl:JK ay)(f:Nat)(hV:VC w0 b ao po cap dR ts q pl f)(i:Nat)(k:Int)(hi:i<=f)(hip:i<N pl)(aAy:N pl<=64)(W:U)(seen:JK Nat)(sv:Ql)
  (hT:fe W b (M (H w0)) 97 3 ao po cap dR ts q pl seen sv) (hW:Bw w0 W) (O4:Sn (N pl) seen) :
  Calls V 75 #[Y (O (aD b 0)),I J i,I J k] W (VQ (λZq s u=>fe Zq b (M (H w0)) 97 3 ao po cap dR ts q pl s u) (M (H w0)) W b sv (oW ts q pl f i k seen)):=by
 obtain⟨C,D,S,a⟩:=bI W #[Z Qr 0 0,Z Qr 0 0,Z Qr 0 0,Qq F,I Qp 0,I Qp 0] 67;have ah:=O4.len;have n:=hT.aj S;obtain⟨G,K,rfl,L⟩:=X9 n.own Qi;have t9:=n.g.at 9;have P:=oh G K _ k C L;have aa:=hW.size;have ai:=hT.g.lt;have Q:aB (Rest b (Z G (N (seen.map λ(i:Nat)=>(i:Int))) K)) W C:=Xl S;have fG:(Value.slice G (N (seen.map λ(i:Nat)=>(i:Int))) K).ownBlock≠O (M (H W)):=λe=>Qj ((Xy hT.own e).2);have ag:Qm (∀(v:bN) (W':U),GB W' (M (H W)) 67 v.cells->(loadVar 67 (aD (M (H W)) 0)).run V W' = .ok (Qt v.cells) W'):=λv W'=>uh;have l:Qm (VQ (λZq s u=>fe Zq b (M (H w0)) 97 3 ao po cap dR ts q pl s u) (M (H w0)) W b (Z G (N (seen.map λ(i:Nat)=>(i:Int))) K) Qr (Qu (Qv #[Qt yC.cells,Qq F])) (World.oI C (M (H W)) yC)):=
  VQ.no (Q.dL (World.Ir _ _ _) λx hx _=>X) yC
 have t:=Zh λ(kn:Nat) (h:kn<i) (m:kn ∉ seen)=>hV kn C seen _ X X n (aO hW S) (O4.push X m);have y:=Zh λ(o:Option (dX × JK Nat)) (e:Ending) (W':U) (v:bN) (h:VQ (λZq s u=>fe Zq b (M (H w0)) 97 3 ao po cap dR ts q pl s u) (M (H w0)) C b (Z G (N (seen.map λ(i:Nat)=>(i:Int))) K) o e W')=>JM (VQ.lay aa hT Q (Zb _) a.lt (nS.refl _ _) (λk=>Q.trans k) h fG v) (a.of (h.fu.block _ a.lt ⟨X,fG⟩));have R:=Zh λ(h:0<=k)=>abv (seen:=seen) h;have HG:=Zh a;generalize (seen.map λ(i:Nat)=>(i:Int))=sx at*;clear hT n L hV O4 hW S Q fG;unfold oW;by_cases d:k<0∨(i:Int)<=k∨k.toNat∈seen
 .rw[Zd d];have B:=Zh (uh (World.VM HG.out yC));have hc:=HG.out.k6;have hf:=GB.f6 HG.out;unfold World.oI bN.cells at l B;simp only[yC,aA.val,XE,JW]at l B;have hk:k<0∨(¬k<0/\(i:Int)<=k)∨(¬k<0/\¬(i:Int)<=k/\decide (k∈sx)=T):=by
   by_cases A:k<0
   .exact .inl A
   by_cases c2:(i:Int)<=k
   .omega
   .exact .inr (.inr ⟨A,c2,Zl ((R.out X).2 Qb)⟩)
  clear d t y R a ag;go_enter func75,ntmps75;go_wp2_with fail;refine P.mono ?_;clear P D t9;rintro e w2 ⟨rfl,rfl⟩;rcases hk with A|⟨A,c2⟩|⟨A,c2,c3⟩
  all_goals
   go_wp2;exact Jr (OI (p:=6) (u:=7) (x:=Qq F) rfl rfl rfl B.out) rfl l.out
 .rw[Zk d];have A:¬k<0:=λh=>d (.inl h)
  have c2:¬(i:Int)<=k:=λh=>d (.inr (.inl h));have m:k.toNat ∉ seen:=λh=>d (.inr (.inr h));have c3:decide (k∈sx)=false:=ZK λh=>m ((R.out X).1 h);have z:=t.out k.toNat X m;obtain⟨kn,rfl⟩:∃kn:Nat,k=(kn:Int):=⟨k.toNat,X⟩;rw[XY]at z ⊢;generalize iI ts q pl f kn seen=Oq at*;clear d t R a m l;go_enter func75,ntmps75;go_wp2_with fail;refine P.mono ?_;clear P D t9;rintro e w2 ⟨rfl,rfl⟩;go_wp2_with fail;refine z.mono ?_;clear z;rintro e w3 j;obtain⟨v,rfl,-⟩:=j.out;obtain⟨r,a⟩:=y.out _ _ _ v j;obtain⟨B,ru⟩:=bH (uh (World.VM a v)) r;have hc:=a.k6;have hf:=GB.f6 a;clear r j y a;obtain⟨⟨ak,au,av⟩,⟨ax,az,aC⟩,⟨aF,aG,aH⟩,aI,aJ,aK⟩:=v;unfold World.oI bN.cells aA.val at*;simp only at*;go_wp2;exact Jr (OI (p:=6) (u:=7) (x:=Qq Oq.isSome) rfl rfl rfl B.out) rfl ru.out
def JY:=@World.VM
def JZ:=@World.Ir
def J2:=@OI
section
def vO(h:fe W b base tT tI ao po cap dR ts q pl seen sv)(hg:GB W R t c)(ht:tI≠t):sv.ownBlock≠O R:=λe=>by obtain⟨a,d⟩:=og h.own e;unfold GB at hg;simp_all
theorem LG.read{plan:JK ay}:∀(f i:Nat) (seen:JK Nat) (v:dX) (s:JK Nat),iI ts q plan f i seen=O (v,s)->LG q v:=by
 intro f
 induction f with
 |zero=>grind [iI]
 |succ f ih =>
  intro i seen v s h;unfold iI at h;simp only at h;generalize E plan i nz=n at h;split at h
  .cases h
  split at h
  .split at h
   .cases h
   .rename_i hs
    injection h with h;injection h with h _;subst h;refine⟨λx b=>?_,Qa,(λx b=>by cases b),List.nodup_nil,Gz _ _ _ _,abt 1 (kM ts q [n.source] []) vz vz⟩;simp_all
  split at h
  .cases h
  split at h
  .cases h
  rename_i l s1 hl;have a:=ih _ _ _ _ hl;split at h
  .split at h
   .cases h
   split at h
   .cases h
   rename_i r s2 hr;have d:=ih _ _ _ _ hr;grind [oJ,LG.node]
  .cases hn:oJ ts q n l vz with
   |none=>rw[hn]at h;cases h
   |some v0 =>
    rw[hn]at h;simp only[Option.map_some]at h;injection h with h;injection h with h _;subst h;exact a.node (LG.zero q) hn
theorem TU{f:Nat}{x:dX × JK Nat}(h:oW ts q pl f i k seen=O x):LG q x.1:=by unfold oW at h;grind [LG.read]
def Iu{Mq:Pm}{Z':U}{x:aA}(h:x.At Zq)(hm:∀a,x.ad=O a->x.xs≠[]->Mq a.block)(hk:aB Mq Zq Z'):x.At Z':=by refine⟨h.1,λi j=>?_⟩;obtain⟨g,off,e,b⟩:=h.2 i j;refine⟨g,off,e,?_⟩;have d:g<M (H Zq):=lW b;have f:=hk.block g d (hm _ e (λe=>Qf));simp only[World.cell?]at b ⊢;rw[f];exact b
structure Vs(w0 W:U)(b:Nat)(sv:Ql)(ao po:LM)(cap dR:Nat)(ts:JK af)(q:ae)(pl:JK ay)(nc:Array Ql)(Zq:U)(s:JK Nat)(u:Ql):Prop where
 fu:aB (Rest b sv) W Zq
 gR:GB Zq (M (H W)) 67 #[Z Qr 0 0,Z Qr 0 0,Z Qr 0 0,Qq F,I Qp 0,I Qp 0]
 gN:GB Zq (M (H W)+1) 43 nc
 iE:fe Zq b (M (H w0)) 97 3 ao po cap dR ts q pl s u
 next:nS W sv u
 base:Bw w0 Zq
 lo:b<M (H W)/\M (H w0)<=M (H W)
 nd:Sn (N pl) s
variable {w0 W Zq Z':U} {b:Nat} {sv u u':Ql} {ao po:LM} {cap dR:Nat} {ts:JK af} {q:ae} {pl:JK ay} {nc:Array Ql} {s s':JK Nat}
theorem Vs.aj(h:Vs w0 W b sv ao po cap dR ts q pl nc Zq s u)(hb:Bw Zq Z'):Vs w0 W b sv ao po cap dR ts q pl nc Z' s u:=
 ⟨h.fu.trans (Xk hb λ_ h _=>h),h.gR.up hb,h.gN.up hb,h.iE.aj hb,h.next,aO h.base hb,h.lo,h.nd⟩
def Vs.no(h:Vs w0 W b sv ao po cap dR ts q pl nc Zq s u)(hk:aB (Rest b u) Zq Z'):aB (Rest b sv) W Z'/\GB Z' (M (H W)) 67 #[Z Qr 0 0,Z Qr 0 0,Z Qr 0 0,Qq F,I Qp 0,I Qp 0]/\GB Z' (M (H W)+1) 43 nc:=by have e:=h.lo.1;exact⟨h.fu.dL hk λx a d=>d.next h.next a,h.gR.of (hk.block _ h.gR.lt ⟨X,vO h.iE h.gR Qc⟩),h.gN.of (hk.block _ h.gN.lt ⟨X,vO h.iE h.gN Qc⟩)⟩
def Vs.abj(h:Vs w0 W b sv ao po cap dR ts q pl nc Zq s u)(hk:aB (Rest b u) Zq Z')(ht:fe Z' b (M (H w0)) 97 3 ao po cap dR ts q pl s' u')(hn:nS Zq u u')(nd:Sn (N pl) s'):Vs w0 W b sv ao po cap dR ts q pl nc Z' s' u':=
 ⟨(h.no hk).1,(h.no hk).2.1,(h.no hk).2.2,ht,h.next.trans hn h.fu.size,h.base.trans (hk.aj h.base.size λx a=>h.iE.yA x a),h.lo,nd⟩
def Vs.store(h:Vs w0 W b sv ao po cap dR ts q pl nc Zq s u)(gB:GB Zq B 67 c)(hB:M (H W)+2<=B)(hk:aB (λx=>x≠B) Zq Z'):Vs w0 W b sv ao po cap dR ts q pl nc Z' s u:=by have f:=h.lo;exact⟨h.fu.dL hk λx a _=>by show x≠B;omega,h.gR.of (hk.block _ h.gR.lt X),h.gN.of (hk.block _ h.gN.lt X),h.iE.but (hk.mono λy _ d e=>d (by rw[e];exact⟨X,vO h.iE gB Qc⟩)),h.next,h.base.trans (hk.aj h.base.size λx a=>by show x≠B;omega),h.lo,h.nd⟩
def aGS(hk:aB (Rest b sv) W Zq)(g:GB Zq (M (H W)) 67 #[Z Qr 0 0,Z Qr 0 0,Z Qr 0 0,Qq F,I Qp 0,I Qp 0])(St:U->JK Nat->Ql->Prop)(n0:Nat) :
  Qm (VQ St n0 W b sv Qr (Qu (Qv #[Qt yC.cells,Qq F])) (World.oI Zq (M (H W)) yC))/\Qm ((loadVar 67 (aD (M (H W)) 0)).run V (World.oI Zq (M (H W)) yC)=.ok (Qt yC.cells) (World.oI Zq (M (H W)) yC)):=
 ⟨VQ.no (hk.dL (JZ _ _ _) λx a _=>X) yC,uh (JY g yC)⟩
theorem asn(h:Vs w0 W b sv ao po cap dR ts q pl nc Zq s u){v:bN}{ok:Bool}(ho:o=if ok=T then O (v.d,s) else Qr)(ha:∀g,aB (xZ (M (H w0)) (M (H W)+2) b u) Zq g->v.At g) :
  VQ (λZq s u=>fe Zq b (M (H w0)) 97 3 ao po cap dR ts q pl s u) (M (H w0)) W b sv o (Qu (Qv #[Qt v.cells,Qq ok])) (World.oI Zq (M (H W)) v)/\(loadVar 67 (aD (M (H W)) 0)).run V (World.oI Zq (M (H W)) v)=.ok (Qt v.cells) (World.oI Zq (M (H W)) v):=by
 have i:=JZ Zq (M (H W)) v;have k:=h.lo;refine⟨⟨h.fu.dL i λx a _=>X,v,Qb,λx a=>?_⟩,uh (JY h.gR v)⟩
 cases ok with
 |false=>rw[ho]at a;cases a
 |true =>
  rw[ho,Zd rfl]at a;injection a with a;subst a;refine⟨rfl,u,h.iE.but (i.mono λy _ f e=>f (by rw[e];exact⟨X,vO h.iE h.gR Qc⟩)),h.next,λg j=>ha g ?_⟩;refine aB.dL (i.mono (t:=xZ (M (H w0)) (M (H W)+2) b u) λy _ f e=>?_) j (λy _ f=>⟨?_,f.2⟩)
  .have:=f.1;omega
  .have:=f.1;omega
end
