import Derived.Test.YtkfenjgalicikaaGreatDoorS05
import Derived.Test.YtkfenjgalicikaaGreatDoorS07
set_option linter.all false
set_option maxRecDepth 100000
set_option maxHeartbeats 0
namespace Go.Proofs.Zz
open Go.RowKit Go.Shelf Go.Proofs.Tryz
open List renaming length->N,getD->E
open Go.Value renaming slice->Z,int->I,bool->Qq,agg->Qt
open Go.Proofs.Tryz renaming prog->V
open Option renaming some->O,none->Qr
open Go.IntKind renaming i64->J,u64->Qp
open Bool renaming false->F,true->T
open Go renaming World->U,Value->Ql
open Go.World renaming heap->H,setCell->Qn,cell?->Qo
open _root_.Array renaming size->M
open Go.RowKit renaming Hid->Qm
open Go.Obj renaming cells->Qs
open Go.Ending renaming returned->Qu
variable {w x y:U} {base cap g i k m n sz:Nat} {e:TypeId} {v:Ql} {ls wh:JK aQ} {A:JK ay} {a:Addr} {xs:JK Ql} {P:Program} {t:bB} {ag:JK bB} {rk:Nat->Int}
def Vl(c:aV):N c.jQ=5:=rfl
def Gt{cs:JK aV}(h:w.ownsRow base e 5 v (N cs) (cs.flatMap aV.jQ))(hl:N cs<=100) :
  ∃k cap,v=Z k (N cs) cap/\bZ w k cs/\∀a,k=O a->base<=a.block/\a.block<M (H w)/\v.ownBlock=O a.block:=by
 rcases h.2 with⟨rfl,h0⟩|⟨g,cap,iw,rfl,hb,hh,hc,_,lH,ht⟩
 .have:=Zo h0;subst this;exact⟨Qr,0,rfl,⟨Qa,λi d=>absurd d Qa⟩,λa f=>by cases f⟩
 .refine⟨O (aD g 0),cap,rfl,⟨X,λi d=>⟨g,0,rfl,?_⟩⟩,λa f=>by cases f;exact⟨hb,(Xx.1 hh).1,rfl⟩⟩;have b:∀j,j<5->Qo w (aD g (0+i*5+j))=((E cs i cz).jQ)[j]?:=λj m=>by have l:=Cn aV.jQ 5 Vl cz cs [] i j d m;rw[Zy]at l;rw[<-l,<-ht,XQ,Zd (Qj d)];simp[World.cell?,hh]
  exact⟨b 0 X,b 1 X,b 2 X,b 3 X,b 4 X⟩
theorem BC{W:U}(h:W.ownsRow base e 1 v (N ls) (ls.map aQ.val))(hc:∀x∈ls,bZ W x.ad x.cs)(hl:N ls<=100) :
  ∃d cap,v=Z d (N ls) cap/\fD W d ls:=by
 have b:∀i,i<N ls->E ls i lz∈ls:=λi a=>by simp[List.getD,a]
 rcases h.2 with⟨rfl,h0⟩|⟨g,cap,iw,rfl,hb,hh,hc2,_,lH,ht⟩
 .have:=Zo h0;subst this;exact⟨Qr,0,rfl,Qa,λi a=>absurd a Qa,λi a=>absurd a Qa⟩
 .refine⟨O (aD g 0),cap,rfl,X,λi a=>⟨g,0,rfl,?_⟩,λi a=>hc _ (b i a)⟩;have j:(iw.toList.take (N ls*1))[i]? = O (E ls i lz).val:=by rw[ht];simp[List.getD,a]
  have f:iw[i]? = O (E ls i lz).val:=by grind
  simp only[World.cell?,hh];simpa using f
def Tryz.aaU:(V.info? 56).map (λi=>(i.zero,i.size,i.bytes))=O (O (Qt #[Qq F,I J 0,I J 0,Qq F,I J 0]),5,40):=Qd
def Tryz.Ob:(V.info? 59).map (λi=>(i.zero,i.size,i.bytes))=O (O (Qt #[Z Qr 0 0]),1,24):=Qd
def fN(kind l r s:Int)(cl:IC):ay:=⟨kind,l,r,s,⟨Qr,0,cl⟩,0,⟨Qr,0,[]⟩⟩
def iG:Nat->JK ay
 |0=>[fN 1 0 0 0 []]
 |k+1=>iG k++[fN 1 0 0 ((k+1:Nat):Int) [],fN 3 (N (iG k)-1:Int) (N (iG k)) 0 []]
def upN(n:Nat):IC:=(List.range n).map λi:Nat=>(i:Int)
def uE(q:ae)(a:JK ay):JK ay:=if 0<N q.wh then a++[fN 2 (N a-1:Int) 0 0 (upN (N q.wh))] else a
def IG(q:ae)(a:JK ay):JK ay:=a++[fN (if q.aF=T then 7 else 9) (N a-1:Int) 0 0 []]
def II(q:ae)(a:JK ay):JK ay:=if 0<N q.ord.xs then a++[fN 10 (N a-1:Int) 0 0 []] else a
def ET(q:ae):JK ay:=II q (IG q (uE q (iG (N q.au.xs-1))))
def Low(A:JK ay):Prop:=∀n∈A,0<=n.l/\n.l<=1000/\0<=n.r/\n.r<=1000
theorem OW(h:Low A):A.map (dO 0)=A:=by rw[ZH (g:=id),List.map_id];intro n a;have:=h n a;obtain⟨k,l,r,s,c,y,o⟩:=n;unfold dO;simp only[id]at this ⊢;grind [wrap64]
theorem VR(n:ay)(h:Low A):sI n [A]=A++[⟨n.kind,(N A:Int)-1,0,n.source,⟨Qr,0,n.cl.xs⟩,n.key,⟨Qr,0,n.co.xs⟩⟩]:=by
 have e:jF [A]=A:=by grind [jF,OW]
 unfold sI xh;simp_all
theorem aq5(h:Low A)(s:Int):sI (eU 3) [A,[fN 1 0 0 s []]]=A++[fN 1 0 0 s [],fN 3 (N A-1:Int) (N A) 0 []]:=by
 have e:jF [A]=A:=by grind [jF,OW]
 have a:jF [A,[fN 1 0 0 s []]]=A++[fN 1 0 0 s []]:=by show ([]++A.map (dO 0))++[dO _ (fN 1 0 0 s [])]=_;rw[OW h];rfl
 unfold sI xh;simp only[List.take,e,a];unfold fN eU;simp
def C9:∀k,N (iG k)=2*k+1
 |0=>rfl
 |k+1=>by show N (iG k++[_,_])=_;rw[Zt,C9 k];simp;omega
def Ma(h:Low A){n:ay}(hn:0<=n.l/\n.l<=1000/\0<=n.r/\n.r<=1000):Low (A++[n]):=λm b=>by
 rcases Z5.1 b with a|a
 .exact h m a
 simp_all
theorem IJ:∀k,k<=100->Low (iG k)
 |0,_=>λn hn=>by rw[show iG 0=[fN 1 0 0 0 []] from rfl,XH]at hn;subst hn;decide
 |k+1,h=>by have h1:=Ma (IJ k X) (n:=fN 1 0 0 ((k+1:Nat):Int) []) (by unfold fN;simp);have h2:=Ma h1 (n:=fN 3 (N (iG k)-1:Int) (N (iG k)) 0 []) (by have:=C9 k;unfold fN;simp only;omega);grind [iG]
def DL(ts:JK af)(q:ae):∀k,k<=100->(dN ts q k).ns=iG k
 |0,_=>rfl
 |k+1,h=>by show sI (eU 3) [(dN ts q k).ns,[fN 1 0 0 ((k+1:Nat):Int) []]]=_;rw[DL ts q k X,aq5 (IJ k X)];rfl
def EI:∀n,n<=8->dZ (2 ^ n-1)=upN n:=by intro n a;have:n=0∨n=1∨n=2∨n=3∨n=4∨n=5∨n=6∨n=7∨n=8:=X;rcases this with rfl|rfl|rfl|rfl|rfl|rfl|rfl|rfl|rfl <;> decide +kernel
theorem abN(ts:JK af)(q:ae)(h5:N q.au.xs<=5)(h8:N q.wh<=8):(kI ts q).ns=ET q:=by
 have d:=DL ts q (N q.au.xs-1) X;have g:=C9 (N q.au.xs-1);have w0:=IJ (N q.au.xs-1) X;have e:(dz ts q (dN ts q (N q.au.xs-1)) (2 ^ (N q.wh)-1)).ns=uE q (iG (N q.au.xs-1)):=by
  unfold dz uE;by_cases c:N q.wh=0
  .simp_all
  .have:2 ^ 1<=2 ^ (N q.wh):=ZP X X;rw[Zk X,Zd X]
   show sI (Dx _) [(dN ts q (N q.au.xs-1)).ns]=_;rw[d,VR _ w0,EI _ h8];rfl
 have a:Low (uE q (iG (N q.au.xs-1)))/\N (uE q (iG (N q.au.xs-1)))<=50/\0<N (uE q (iG (N q.au.xs-1))):=by
  unfold uE;split
  .exact⟨Ma w0 (by unfold fN;simp only;omega),Qb,Qf⟩
  grind
 unfold ET kI;generalize iG (N q.au.xs-1)=A,dz ts q (dN ts q (N q.au.xs-1)) (2 ^ (N q.wh)-1)=Tq at*;generalize uE q A=B at*;have b:(aS ts q (eU (if q.aF=T then 7 else 9)) [Tq]).ns=IG q B:=by show sI (eU _) [Tq.ns]=_;rw[e,VR _ a.1];rfl
 have f:Low (IG q B):=Ma a.1 (by
  have:=a.2;unfold fN;simp only;omega)
 unfold II;simp only;generalize aS ts q (eU (if q.aF=T then 7 else 9)) [Tq]=Eq at*;split
 .show sI (eU 10) [Eq.ns]=_
  rw[b,VR _ f];rfl
 .exact b
def gK(s:Nat):Int:=(N (bS s):Int)
theorem Es(l r:Nat)(w:U) :
  Cb 187 #[Qt #[I Qp (l:Int),I Qp (r:Int)]] w (Qq (decide (r=0))):=by
 obtain⟨b,d⟩:=eX (w.alloc (Qs #[I Qp (l:Int),I Qp (r:Int)] 165));have a:Qm (Bw w b):=by show Below _ _ _;rw[<-d];exact fo _ _
 have e:Qo b (aD (M (H w)) 1)=O (I Qp (r:Int)):=by rw[<-d];simp
 go_enter func187,ntmps187;go_wp2;go_ret;exact⟨QZ Qb,a.o⟩
def Nw(a:Int)(w:U):Ce 208 #[I J a] w (Qq F):=by go_enter func208,ntmps208;go_wp2;go_ret;exact⟨QZ Qa,rfl⟩
def Ny(a:Nat)(w:U):Ce 210 #[I Qp (a:Int)] w (Qq F):=by go_enter func210,ntmps210;go_wp2;go_ret;exact⟨QZ Qa,rfl⟩
def U3(a b:Int)(w:U):Ce 176 #[I J a,I J b] w (I J (uR a b)):=by
 have l:=Nw a w;have m:=Nw b w;have i:Qm (uR a b=if a<b then -1 else if b<a then 1 else 0):=rfl;generalize uR a b=R at*;go_enter func176,ntmps176;go_wp2_with fail;refine mR l λn d=>?_;have d:=d.symm;subst d;go_wp2_with fail;refine mR m λn d=>?_;have d:=d.symm;subst d;by_cases f:a<b
 .have g:=Zh (by  rw[i.o,Zd f]:R = -1)
  have k:=Zl f;go_wp2;go_ret;exact⟨Q0 (by rw[g.o]),rfl⟩
 .by_cases e:b<a
  .have g:=Zh (by  rw[i.o,Zk f,Zd e]:R=1)
   have k:=ZK f;have j:=Zl e;go_wp2;go_ret;exact⟨Q0 (by rw[g.o]),rfl⟩
  .have g:=Zh (by  rw[i.o,Zk f,Zk e]:R=0)
   have k:=ZK f;have j:=ZK e;go_wp2;go_ret;exact⟨Q0 (by rw[g.o]),rfl⟩
def Ga(a b:Nat)(w:U):Ce 178 #[I Qp (a:Int),I Qp (b:Int)] w (I J (uR (a:Int) (b:Int))):=by
 have l:=Ny a w;have m:=Ny b w;have i:Qm (uR (a:Int) (b:Int)=if a<b then -1 else if b<a then 1 else 0):=by show _=_;unfold uR;simp only[Int.ofNat_lt]
 generalize uR (a:Int) (b:Int)=R at*;go_enter func178,ntmps178;go_wp2_with fail;refine mR l λn d=>?_;have d:=d.symm;subst d;go_wp2_with fail;refine mR m λn d=>?_;have d:=d.symm;subst d;by_cases f:a<b
 .have g:=Zh (by  rw[i.o,Zd f]:R = -1)
  have k:=Zl f;go_wp2;go_ret;exact⟨Q0 (by rw[g.o]),rfl⟩
 .by_cases e:b<a
  .have g:=Zh (by  rw[i.o,Zk f,Zd e]:R=1)
   have k:=ZK f;have j:=Zl e;go_wp2;go_ret;exact⟨Q0 (by rw[g.o]),rfl⟩
  .have g:=Zh (by  rw[i.o,Zk f,Zk e]:R=0)
   have k:=ZK f;have j:=ZK e;go_wp2;go_ret;exact⟨Q0 (by rw[g.o]),rfl⟩
def Lp(s:Nat)(hs:s<32)(w:U):Ce 267 #[I Qp (s:Int)] w (I J (gK s)):=by obtain⟨R,a⟩:=eY (gK s);rw[<-a];have b:=Zh a;clear a;go_enter func267,ntmps267;go_wp2;go_ret;refine⟨Q0 ?_,rfl⟩;obtain rfl:=b.o;clear b;revert s;decide +kernel
def U4(s:Nat)(hs:s<32)(w:U):Ce 209 #[I Qp (s:Int)] w (I J (gK s)):=by
 have a:=Lp s hs w;generalize gK s=R at*;have b:Ce 240 #[I Qp (s:Int)] w (I J R):=by go_enter func240,ntmps240;go_wp2_with fail;refine a.mono ?_;rintro e d ⟨rfl,rfl⟩;go_wp2;go_ret;exact⟨rfl,rfl⟩
 go_enter func209,ntmps209;go_wp2_with fail;refine b.mono ?_;rintro e d ⟨rfl,rfl⟩;go_wp2;go_ret;exact⟨rfl,rfl⟩
theorem apo(b:Nat)(x y z:Int)(w:U)(h0:Qo w (aD b 0)=O (I J x))(h1:Qo w (aD b 1)=O (I J y))(h2:Qo w (aD b 2)=O (I J z)) :
  Ce 175 #[Z (O (aD b 0)) 3 3] w (I J (if x≠0 then x else if y≠0 then y else z)):=by
 obtain⟨R,u⟩:=eY (if x≠0 then x else if y≠0 then y else z);rw[<-u];have p:=Zh u;clear u;obtain⟨L,m⟩:=eY ([x,y,z]:IC);have D:Qm (∀k,k<3->Qo w (aD b k)=O (I J (E L k 0))):=λk n=>by
  rw[m]
  match k,n with
  |0,_=>exact h0
  |1,_=>exact h1
  |2,_=>exact h2
 have G:Qm (∀k,k<3->(∀j,j<k->E L j 0=0)->E L k 0≠0->E L k 0=R):=λk n a l=>by
  rw[p.o];rw[m]at a l ⊢
  match k,n with
  |0,_ =>
   grind
  |1,_ =>
   have g:x=0:=a 0 X;have l:y≠0:=l;show y=_;rw[Zk (not_not_intro g),Zd l]
  |2,_ =>
   have g:x=0:=a 0 X;grind
 have K:Qm ((∀j,j<3->E L j 0=0)->R=0):=λa=>by rw[m]at a;have g:x=0:=a 0 X;have P:y=0:=a 1 X;have Q:z=0:=a 2 X;rw[p.o,g,P,Q];simp
 clear h0 h1 h2 m p;go_enter func175,ntmps175;go_wp2;go_loop [8] (λi=>∃k:Nat,k<=3/\i=I J (k:Int)/\Qm (∀j,j<k->E L j 0=0)) (λi=>3-(intOf i).toNat)
 case atStart=>exact⟨0,X,rfl,λj a=>X⟩
 case round=>
  obtain⟨k,n,rfl,A⟩:=hrel;by_cases C:k<3
  .have S:=D.o k C;have e:=Zh (G.o k C A.o);obtain⟨v,B⟩:=eY (E L k 0)
   rw[<-B]at S e;have q:=Zh B;clear B;by_cases d:v=0
   .have r:=Zh d;have W:(v != 0)=false:=by simp[d]
    clear d;go_wp2;go_round
    case rel=>exact⟨k+1,X,Qe,λj a=>by
     rcases Nat.lt_or_eq_of_le (Nat.le_of_lt_succ a) with h|h
     .exact A.o j h
     .rw[h,<-q.o];exact r.o⟩
    case measure=>exact XK
   .have t:=Zh (e.o d);have W:(v != 0)=true:=by simp[d]
    clear e;go_wp2;go_ret;exact⟨Q0 t.o,rfl⟩
  .have f:k=3:=X
   have HF:=Zh (K.o (by rw[<-f];exact A.o));clear f;go_wp2;go_ret;exact⟨Q0 HF.o.symm,rfl⟩
def YX(l r:Nat)(hl:l<32)(hr:r<32)(w:U) :
  Cb 177 #[Qt #[I Qp (l:Int),I Qp (r:Int)]] w (I J (rE gK (l,r))):=by
 obtain⟨t,m⟩:=eX (w.alloc (Qs #[I Qp (l:Int),I Qp (r:Int)] 165));have A:Bw w t:=by rw[<-m];exact fo _ _
 have c0:Qo t (aD (M (H w)) 0)=O (I Qp (l:Int)):=by rw[<-m];simp
 have B:Qo t (aD (M (H w)) 1)=O (I Qp (r:Int)):=by rw[<-m];simp
 have b:=Es l r t;have j:=Zh A;have p:Qm (rE gK (l,r)=if r=0 then 6 else gK (l|||r)):=rfl;have u:l|||r<32:=vZ (n:=5) hl hr;generalize rE gK (l,r)=R at*;clear A;by_cases i:r=0
 .have q:=Zh (by  rw[p.o,Zd i]:R=6)
  rw[Zl i]at b;clear i p;go_enter func177,ntmps177;go_wp2_with fail;refine mR b λz d=>?_;have f:=Zh (aO j.o d);clear b d m;go_wp2;go_ret;exact⟨Q0 q.o.symm,f.o⟩
 .have q:=Zh (by  rw[p.o,Zk i]:R=gK (l|||r))
  rw[ZK i]at b;clear i p;go_enter func177,ntmps177;go_wp2_with fail;refine mR b λz d=>?_;have f:=Zh (aO j.o d);obtain⟨D,G⟩:=kP d c0 B;obtain⟨y,e⟩:=eX (z.alloc (Qs #[I Qp (l:Int),I Qp (r:Int)] 114));have v:Qm (Bw w y):=aO f.o (by rw[<-e];exact fo _ _);have k:=qD (M (H z)) l r y (by rw[<-e];simp) (by rw[<-e];simp) X X;have g:=U4 (l|||r) u y;rw[<-q.o]at g;generalize l|||r=lr at*;clear b d m c0 B q;go_wp2_with fail;refine mR k λC a=>?_;have a:=a.symm;subst a;go_wp2_with fail;refine mR g λC a=>?_;have a:=a.symm;subst a;clear k g e;go_wp2;go_ret;exact⟨rfl,v.o⟩
def ahB(a b:bB)(ha:a.1<32/\a.2<32)(hb:b.1<32/\b.2<32)(w:U) :
  Cb 137 #[Qt #[I Qp (a.1:Int),I Qp (a.2:Int)],Qt #[I Qp (b.1:Int),I Qp (b.2:Int)]] w (I J (vJ gK a b)):=by
 have l:Qm (∀x,Cb 177 #[Qt #[I Qp (a.1:Int),I Qp (a.2:Int)]] x (I J (rE gK a))):=λx=>YX a.1 a.2 ha.1 ha.2 x;have D:Qm (∀x,Cb 177 #[Qt #[I Qp (b.1:Int),I Qp (b.2:Int)]] x (I J (rE gK b))):=λx=>YX b.1 b.2 hb.1 hb.2 x;have v:Qm (vJ gK a b=if uR (rE gK b) (rE gK a)≠0 then uR (rE gK b) (rE gK a) else if uR a.1 b.1≠0 then uR a.1 b.1 else uR a.2 b.2):=rfl;have G:Qm (∀x,Ce 176 #[I J (rE gK b),I J (rE gK a)] x (I J (uR (rE gK b) (rE gK a)))):=λx=>U3 _ _ x;have m:Qm (∀x,Ce 178 #[I Qp (a.1:Int),I Qp (b.1:Int)] x (I J (uR a.1 b.1))):=λx=>Ga _ _ x;have n:Qm (∀x,Ce 178 #[I Qp (a.2:Int),I Qp (b.2:Int)] x (I J (uR a.2 b.2))):=λx=>Ga _ _ x;generalize vJ gK a b=R,rE gK a=RA,rE gK b=RB at*;obtain⟨y,z⟩:=a;obtain⟨A,B⟩:=b;simp only at*;generalize uR RB RA=C1 at*;generalize uR (y:Int) (A:Int)=C2 at*;generalize uR (z:Int) (B:Int)=C3 at*;have p:Qm (∀(x:U) (c:Nat),Qo x (aD c 0)=O (I J C1)->Qo x (aD c 1)=O (I J C2)->Qo x (aD c 2)=O (I J C3)->Ce 175 #[Z (O (aD c 0)) 3 3] x (I J R)):=λx c W h1 h2=>by rw[v.o];exact apo c C1 C2 C3 x W h1 h2
 clear v ha hb;obtain⟨P,Q,C,j⟩:=bI w #[I Qp (y:Int),I Qp (z:Int)] 165;obtain⟨S,r,i,k⟩:=bI P #[I Qp (A:Int),I Qp (B:Int)] 165;have g:=j.up i;obtain⟨a0,a1⟩:=g.k2;obtain⟨b0,b1⟩:=k.k2;have q:=Zh (aO C i);clear C i j k g;go_enter func137,ntmps137;go_wp2_with fail;clear Q r;refine wH S λe=>?_;refine rR 0 e ?_;refine rR 2 e ?_;refine IU 5 e ?_;refine IU 10 e ?_;refine wR 1 λK d=>?_;go_simp;refine mR (D.o _) λw3 hb=>?_;refine oT d e hb λe=>?_;clear d K;refine wR 3 λK d=>?_;go_simp;refine mR (l.o _) λw4 hb=>?_;refine oT d e hb λe=>?_;clear d K;refine wR 4 λK d=>?_;go_simp;refine mR (G.o _) λw5 zg=>?_;have f:=zg.symm;subst f;refine d.o _ _ e λe=>?_;clear d K;refine wR 9 λK d=>?_;go_simp;refine mR (m.o _) λw6 yw=>?_;have f:=yw.symm;subst f;refine d.o _ _ e λe=>?_;clear d K;refine wR 14 λK d=>?_;go_simp;refine mR (n.o _) λw7 t=>?_;have f:=t.symm;subst f;refine d.o _ _ e λe=>?_;clear d K;refine wR 15 λK d=>?_;go_simp;refine oA d e λe=>?_;clear d K;refine wR 16 λK d=>?_;go_simp;refine mR (p.o _ _ Qa Qa Qa) λw8 u=>?_;have f:=u.symm;subst f;refine d.o _ _ e λe=>?_;clear d K;refine wR 17 λK d=>?_;go_simp;refine d.o _ _ e λe=>?_;clear d K;refine wD ?_;try simp only[pV]
 have L:=Zh (aO q.o e);clear e;go_wp2;go_ret;exact⟨rfl,L.o⟩
def rF(w:U)(ao:LM)(ag:JK bB):Prop:=
 N ag<=1000000000/\∀i,i<N ag->∃b off,ao=O (aD b off)/\Qo w (aD b (off+i*2))=O (I Qp ((E ag i (0,0)).1:Int))/\Qo w (aD b (off+i*2+1))=O (I Qp ((E ag i (0,0)).2:Int))
theorem rF.aj{w w':U}(hb:Bw w w'){ao:LM}{ag:JK bB}(h:rF w ao ag):rF w' ao ag:=
 ⟨h.1,λi d=>by obtain⟨b,off,e,c0,a⟩:=h.2 i d;exact⟨b,off,e,cB hb c0,cB hb a⟩⟩
def als(lt:Nat->Bool)(f i j:Nat)(h:i<j):bsF lt (f+1) i j=if lt ((i+j) / 2)=T then bsF lt f ((i+j) / 2+1) j else bsF lt f i ((i+j) / 2):=by show (if i<j then _ else _)=_;rw[Zd h]
def aps(lt:Nat->Bool)(f i j:Nat)(h:¬i<j):bsF lt f i j=i:=by
 cases f with
 |zero=>rfl
 |succ f =>
  show (if i<j then _ else _)=_;rw[Zk h]
theorem PU(ao:LM)(cap:Nat)(ag:JK bB)(t:bB)(w:U)(hx:rF w ao ag)(ha:∀a∈ag,a.1<32/\a.2<32)(ht:t.1<32/\t.2<32) :
  Cb 136 #[Z ao (N ag) cap,Qt #[I Qp (t.1:Int),I Qp (t.2:Int)],.func (.func 137) #[] #[]] w (.tuple #[I J (rX gK ag t:Int),Qq (uA gK ag t)]):=by
 have aa:Qm (∀k x,k<N ag->Cb 137 #[Qt #[I Qp ((E ag k (0,0)).1:Int),I Qp ((E ag k (0,0)).2:Int)],Qt #[I Qp (t.1:Int),I Qp (t.2:Int)]] x (I J (vJ gK (E ag k (0,0)) t))):=λk x hk=>ahB _ t (ha _ (XI hk)) ht x;have HF:Qm (rX gK ag t=bsF (λh=>decide (vJ gK (E ag h (0,0)) t<0)) (N ag) 0 (N ag)):=rfl;have HT:Qm (uA gK ag t=(decide (rX gK ag t<N ag)&&decide (vJ gK (E ag (rX gK ag t) (0,0)) t=0))):=rfl;have hl:=hx.1;have HX:=Zh hx;generalize uA gK ag t=TB,rX gK ag t=FA at*;obtain⟨W,tr⟩:=t;simp only at*;obtain⟨l,r⟩:=eY (λk=>vJ gK (E ag k (0,0)) (W,tr):Nat->Int);have B:Qm (∀k x,k<N ag->Cb 137 #[Qt #[I Qp ((E ag k (0,0)).1:Int),I Qp ((E ag k (0,0)).2:Int)],Qt #[I Qp (W:Int),I Qp (tr:Int)]] x (I J (l k))):=by rw[r];exact aa.o
 have ae:Qm (FA=bsF (λh=>decide (l h<0)) (N ag) 0 (N ag)):=by rw[r];exact HF.o
 have au:Qm (TB=(decide (FA<N ag)&&decide (l FA=0))):=by rw[r];exact HT.o
 obtain⟨w1,S⟩:=eX (w.alloc (Qs #[I Qp (W:Int),I Qp (tr:Int)] 165));have bL:Bw w w1:=by rw[<-S];exact fo _ _
 have t0:Qo w1 (aD (M (H w)) 0)=O (I Qp (W:Int)):=by rw[<-S];simp
 have t1:Qo w1 (aD (M (H w)) 1)=O (I Qp (tr:Int)):=by rw[<-S];simp
 have C:=Zh bL;go_enter func136,ntmps136;go_wp2;go_loopw [9,10] (λiv jv wr=>∃i j f:Nat,i<=j/\j<=N ag/\j-i<=f/\iv=I J (i:Int)/\jv=I J (j:Int)/\Qm (bsF (λh=>decide (l h<0)) f i j=FA)/\Qm (Bw w1 wr)) (λiv jv _=>(intOf jv).toNat-(intOf iv).toNat)
 case atStart=>exact⟨0,N ag,N ag,ZR _,Zb _,X,rfl,rfl,ae.o.symm,Za _ _⟩
 case round=>
  obtain⟨i,j,f,ax,ai,hf,rfl,rfl,R,A⟩:=hrel;by_cases aT:i<j
  .obtain⟨u,rfl⟩:∃u,f=u+1:=⟨f-1,X⟩
   have p:=Zh ((als (λh=>decide (l h<0)) u i j aT).symm.trans R.o);obtain⟨h,hh⟩:=eX ((i+j) / 2);have av:i<=h/\h<j:=X;rw[hh]at p;have S:wrap64 ((i:Int)+(j:Int))=((i+j:Nat):Int):=by unfold wrap64;omega
   have D:((i:Int)+(j:Int)) / 2=(h:Int):=X;have G:h<N ag:=X;obtain⟨b,off,y,c0,c1⟩:=(rF.aj (aO C.o A.o) HX.o).2 h G;subst y;have af:=B.o h;generalize (E ag h (0,0)).1=xl,(E ag h (0,0)).2=xr at*;obtain⟨s0,s1⟩:=kP A.o t0 t1;have L:(h:Int)<(N ag:Int):=X;have m:Qm _:=λx=>af x G;obtain⟨wq,z⟩:=eY (wr);subst z;obtain⟨v,hv⟩:=eX (l h);rw[hv]at m;simp only[hv]at p;have P:Qm _:=p;go_wp2_with fail;try rw[D]
   refine wH wq λd=>?_;refine wA6 0 d ?_;refine wR 6 λK e=>?_;go_simp;refine mR (m.o _) λw2 hb=>?_;refine oT e d hb λd=>?_;refine wR 7 λK e=>?_;go_simp;refine e.o _ _ d λd=>?_;refine wD ?_;try simp only[pV]
   have Q:=Zh (A.o.trans (d.mono A.o.size));by_cases n:v<0
   .have HN:Qm (bsF (λh=>decide (l h<0)) u (h+1) j=FA):=by have:=P.o;rw[Zd (Zl n)]at this;exact this
    have zl:=Zl n;refine gQ ?_;exact⟨h+1,j,u,X,ai,X,Qe,rfl,HN.o,Q.o⟩
   .have HN:Qm (bsF (λh=>decide (l h<0)) u i h=FA):=by have:=P.o;rw[Zk (by rw[ZK n];decide)]at this;exact this
    have zl:=ZK n;refine gQ ?_;exact⟨i,h,u,X,X,X,rfl,rfl,HN.o,Q.o⟩
  .have ah:=(aps _ f i j aT).symm.trans R.o;subst ah;obtain⟨wq,z⟩:=eY (wr)
   subst z;have g:=Zh (aO C.o A.o);by_cases gH:i<N ag
   .obtain⟨b,off,y,c0,c1⟩:=(rF.aj g.o HX.o).2 i gH;subst y;have m:Qm _:=λx=>B.o i x gH
    generalize (E ag i (0,0)).1=xl,(E ag i (0,0)).2=xr at*;obtain⟨s0,s1⟩:=kP A.o t0 t1;have L:(i:Int)<(N ag:Int):=X;have q:Qm (TB=(l i==0)):=Qb;generalize l i=v at*;go_wp2_with fail;refine wH wq λd=>?_;refine wA5 0 d ?_;refine wB6 5 d ?_;refine wR 11 λK e=>?_;go_simp;refine mR (m.o _) λw2 hb=>?_;refine oT e d hb λd=>?_;refine wB2 12 d ?_;refine wR 14 λK e=>?_;go_simp;refine e.o _ _ d λd=>?_;refine wR 15 λK e=>?_;go_simp;refine e.o _ _ d λd=>?_;refine wD ?_;try simp only[pV]
    have Ps:=Zh (g.o.trans (d.mono g.o.size));go_wp2;go_ret2;exact⟨by rw[q.o];rfl,Ps.o⟩
   .have q:Qm (TB=F):=Qb
    have ak:¬(i:Int)<(N ag:Int):=X;go_wp2_with fail;refine wH wq λd=>?_;refine wA5 0 d ?_;refine wS6 5 d ?_;refine wS2 11 d ?_;refine rR 13 d ?_;refine wR 14 λK e=>?_;go_simp;refine e.o _ _ d λd=>?_;refine wR 15 λK e=>?_;go_simp;refine e.o _ _ d λd=>?_;refine wD ?_;try simp only[pV]
    have Ps:=Zh (g.o.trans (d.mono g.o.size));go_wp2;go_ret2;exact⟨by rw[q.o];rfl,Ps.o⟩
def xy(t:af):JK Value:=[I J t.bU,I J t.rows,I J t.k0,I J t.k1,I J t.k2,I J t.k3]
def Od{ts:JK af}(h:w.ownsRow base e 6 v (N ts) (ts.flatMap xy))(hl:N ts<=1000) :
  ∃f cap,v=Z f (N ts) cap/\aZ w f ts:=by
 rcases h.2 with⟨rfl,h0⟩|⟨g,cap,iw,rfl,hb,hh,hc,_,lH,ht⟩
 .have:=Zo h0;subst this;exact⟨Qr,0,rfl,Qa,λi d=>absurd d Qa⟩
 .refine⟨O (aD g 0),cap,rfl,X,λi d=>⟨g,0,rfl,?_⟩⟩;have a:∀j u,j<6->(xy (E ts i tz))[j]? = O u->Qo w (aD g (0+i*6+j))=O u:=λj u k l=>by
   have b:=XO xy 6 (λ_=>rfl) tz ts i j d k;rw[l,<-ht,XQ]at b;split at b
   .rw[ZT,ZC (show GB w g _ iw from hh)]
    simpa using b
   .cases b
  exact⟨a 0 _ X rfl,a 1 _ X rfl,a 2 _ X rfl,a 3 _ X rfl,a 4 _ X rfl,a 5 _ X rfl⟩
def aaV{xs:JK af}(h:aZ w (O a) xs):∀j u,(xs.flatMap xy)[j]? = O u->∃b off,O a=O (aD b off)/\Qo w (aD b (off+j))=O u:=by
 intro j u l;have m:j<N xs*6:=by have:=(XF.1 l).1;rw[pO xy 6 (λ_=>rfl)]at this;exact this
 have g:j / 6<N xs:=X;obtain⟨b,off,e,c0,n,c2,c3,c4,c5⟩:=h.2 (j / 6) g;refine⟨b,off,e,?_⟩;have k:j % 6<6:=X;have d:=XO xy 6 (λ_=>rfl) tz xs (j / 6) (j % 6) g k;have f:j / 6*6+j % 6=j:=X;rw[f,l]at d;rw[<-f];generalize j / 6=i,j % 6=r at*
 match r,k,d with
 |0,_,d =>
  injection d with d;rw[d,Xg];exact c0
 |1,_,d =>
  injection d with d;rw[d,<-JL];exact n
 |2,_,d =>
  injection d with d;rw[d,<-JL];exact c2
 |3,_,d =>
  injection d with d;rw[d,<-JL];exact c3
 |4,_,d =>
  injection d with d;rw[d,<-JL];exact c4
 |5,_,d =>
  injection d with d;rw[d,<-JL];exact c5
def ad9{xs:JK aV}(h:bZ w (O a) xs):∀j u,(xs.flatMap aV.jQ)[j]? = O u->∃b off,O a=O (aD b off)/\Qo w (aD b (off+j))=O u:=by
 intro j u l;have m:j<N xs*5:=by have:=(XF.1 l).1;rw[pO aV.jQ 5 (λ_=>rfl)]at this;exact this
 have g:j / 5<N xs:=X;obtain⟨b,off,e,c0,n,c2,c3,c4⟩:=h.2 (j / 5) g;refine⟨b,off,e,?_⟩;have k:j % 5<5:=X;have d:=XO aV.jQ 5 (λ_=>rfl) cz xs (j / 5) (j % 5) g k;have f:j / 5*5+j % 5=j:=X;rw[f,l]at d;rw[<-f];generalize j / 5=i,j % 5=r at*
 match r,k,d with
 |0,_,d =>
  injection d with d;rw[d,Xg];exact c0
 |1,_,d =>
  injection d with d;rw[d,<-JL];exact n
 |2,_,d =>
  injection d with d;rw[d,<-JL];exact c2
 |3,_,d =>
  injection d with d;rw[d,<-JL];exact c3
 |4,_,d =>
  injection d with d;rw[d,<-JL];exact c4
def Tryz.afM:(V.info? 54).map (λi=>(i.zero,i.size,i.bytes))=O (O (Qt #[I J 0,I J 0,I J 0,I J 0,I J 0,I J 0]),6,48):=Qd
def Lr(ao:LM)(cap:Nat)(xs:JK af)(w:U)(hx:aZ w ao xs)(hn:ao=Qr->cap=0)(hl:N xs<=1000) :
  Calls V 48 #[Z ao (N xs) cap] w λe d=>∃v,e=Qu v/\d.ownsRow (M (H w)) 54 6 v (N xs) (xs.flatMap xy)/\Bw w d:=by
 obtain⟨i0,p,f,g,i⟩:=XB Tryz.afM
 cases ao with
 |none =>
  obtain rfl:cap=0:=hn rfl;have k:xs=[]:=by
   cases xs with
   |nil=>rfl
   |cons x xs=>obtain⟨b,off,e,_⟩:=hx.2 0 Qa;cases e
  subst k;have l:∀W,(binOp .eql 32 (.slice Qr 0 0) (.slice Qr 0 0)).run V W=.ok (.bool T) W:=λW=>Jv W 32 _ Qr _ _ _ _ underlying32;go_enter func48,ntmps48;go_wp2;go_ret;exact⟨_,rfl,XC _ _ _ _,Za _ _⟩
 |some a =>
  obtain⟨B,d,q,r,j,⟨t,y,z,rfl⟩⟩:=uU (P:=V) w 32 32 54 i0 _ 6 48 underlying32 p f g i rfl Qc a (N xs) cap (xs.flatMap xy) (pO xy 6 (λ_=>rfl) xs) (aaV hx) (λu A=>by
   obtain⟨x,_,hx⟩:=ZA.1 A;simp[xy]at hx;rcases hx with rfl|rfl|rfl|rfl|rfl|rfl <;> rfl) X Qc
  have l:∀W,(binOp .eql 32 (.slice (O a) (N xs) cap) (.slice Qr 0 0)).run V W=.ok (.bool F) W:=λW=>Jv W 32 _ (O a) _ _ _ _ underlying32;have m:Qm _:=r;have n:=Zh j;go_enter func48,ntmps48;go_wp2_with (first|(at_builtin;refine XJ rfl (.tmp 5) (.tmp 6) 32 rfl (.slice (O (aD (M (H w)) 0)) 0 0) (.slice (O a) (N xs) cap) (.slice t y z) d rfl rfl q ?_));go_wp2;go_ret;exact⟨_,rfl,m.o,n.o⟩
def Oe(ao:LM)(cap:Nat)(xs:JK aV)(w:U)(hx:bZ w ao xs)(hn:ao=Qr->cap=0)(hl:N xs<=1000) :
  Calls V 85 #[Z ao (N xs) cap] w λe d=>∃v,e=Qu v/\d.ownsRow (M (H w)) 56 5 v (N xs) (xs.flatMap aV.jQ)/\Bw w d:=by
 obtain⟨i0,p,f,g,i⟩:=XB Tryz.aaU
 cases ao with
 |none =>
  obtain rfl:cap=0:=hn rfl;have k:xs=[]:=by
   cases xs with
   |nil=>rfl
   |cons x xs=>obtain⟨b,off,e,_⟩:=hx.2 0 Qa;cases e
  subst k;have l:∀W,(binOp .eql 57 (.slice Qr 0 0) (.slice Qr 0 0)).run V W=.ok (.bool T) W:=λW=>Jv W 57 _ Qr _ _ _ _ underlying57;go_enter func85,ntmps85;go_wp2;go_ret;exact⟨_,rfl,XC _ _ _ _,Za _ _⟩
 |some a =>
  obtain⟨B,d,q,r,j,⟨t,y,z,rfl⟩⟩:=uU (P:=V) w 57 57 56 i0 _ 5 40 underlying57 p f g i rfl Qc a (N xs) cap (xs.flatMap aV.jQ) (pO aV.jQ 5 (λ_=>rfl) xs) (ad9 hx) (λu A=>by
   obtain⟨x,_,hx⟩:=ZA.1 A;simp[aV.jQ]at hx;rcases hx with rfl|rfl|rfl|rfl|rfl <;> rfl) X Qc
  have l:∀W,(binOp .eql 57 (.slice (O a) (N xs) cap) (.slice Qr 0 0)).run V W=.ok (.bool F) W:=λW=>Jv W 57 _ (O a) _ _ _ _ underlying57;have m:Qm _:=r;have n:=Zh j;go_enter func85,ntmps85;go_wp2_with (first|(at_builtin;refine XJ rfl (.tmp 5) (.tmp 6) 57 rfl (.slice (O (aD (M (H w)) 0)) 0 0) (.slice (O a) (N xs) cap) (.slice t y z) d rfl rfl q ?_));go_wp2;go_ret;exact⟨_,rfl,m.o,n.o⟩
theorem Ih(ao:LM)(cap:Nat)(xs:JK aQ)(w:U)(hx:N xs<=1152921504606846976/\dC w ao (N xs) (λi=>(E xs i lz).val))(hn:ao=Qr->cap=0)(hl:N xs<=1000) :
  Calls V 84 #[Z ao (N xs) cap] w λe d=>∃v,e=Qu v/\d.ownsRow (M (H w)) 59 1 v (N xs) (xs.map aQ.val)/\Bw w d:=by
 obtain⟨i0,y,f,g,k⟩:=XB Tryz.Ob
 cases ao with
 |none =>
  obtain rfl:cap=0:=hn rfl;have p:xs=[]:=by
   cases xs with
   |nil=>rfl
   |cons x xs=>obtain⟨b,off,e,_⟩:=hx.2 0 Qa;cases e
  subst p;have q:∀W,(binOp .eql 33 (.slice Qr 0 0) (.slice Qr 0 0)).run V W=.ok (.bool T) W:=λW=>Jv W 33 _ Qr _ _ _ _ underlying33;go_enter func84,ntmps84;go_wp2;go_ret;exact⟨_,rfl,XC _ _ _ _,Za _ _⟩
 |some a =>
  obtain⟨K,d,z,A,l,⟨B,C,D,rfl⟩⟩:=uU (P:=V) w 33 33 59 i0 _ 1 24 underlying33 y f g k rfl Qc a (N xs) cap (xs.map aQ.val) Qa (λj u m=>by
   rw[Zv]at m;by_cases n:j<N xs
   .obtain⟨L,Q,e,R⟩:=hx.2 j n
    grind
   .rw[Jc X]at m;cases m) (λu G=>by obtain⟨x,_,rfl⟩:=Xc.1 G;rfl) X Qc
  have q:∀W,(binOp .eql 33 (.slice (O a) (N xs) cap) (.slice Qr 0 0)).run V W=.ok (.bool F) W:=λW=>Jv W 33 _ (O a) _ _ _ _ underlying33;have r:Qm _:=A;have t:=Zh l;go_enter func84,ntmps84;go_wp2_with (first|(at_builtin;refine XJ rfl (.tmp 5) (.tmp 6) 33 rfl (.slice (O (aD (M (H w)) 0)) 0 0) (.slice (O a) (N xs) cap) (.slice B C D) d rfl rfl z ?_));go_wp2;go_ret;exact⟨_,rfl,r.o,t.o⟩
def wz{ops:Array Oper}{Q:Exit->Act->World->Prop}{md:Region.Mode}{S:World->Prop}{fuel:Nat}{aW:Array Bool}{a:Act}{oi:Oper}(_:xB i)(hS:S w)(h:wpAnyH P md ops Q S fuel (aW.setIfInBounds i true) (a.put (some k) v) w)(hi:ops[i]? = some oi:=by exact rfl)(hk:oi.dst=some k:=by exact rfl)(hs:Region.noSelect ops=true:=by kernel_rfl)(hf:Region.free md ops aW i=true:=by kernel_rfl)(hr:(Region.ready md ops aW).contains i=true:=by kernel_rfl)(hQ:∀c a w,Q (.panic c) (a.put oi.dst v) w->Q (.panic c) a w:=by first|exact λ_ _ _ h=>h|exact λ_ _ _ h=>by cases h.1)(hg:Region.wanted oi (yielded ops a.tmps)=true:=by kernel_rfl)(hy:∀x,(execOp a.eval oi).run P x=.ok (.value v) x:=by intro x;go_simp;first|done|rfl):wpAnyH P md ops Q S (fuel+1) aW a w:=
 QW hi hs hf hr hQ (.inl ⟨hg,λx _=>hy x⟩) hS (by rw[hk];exact h)
def wZ4{P Q C:Prop}(i:Nat)(s:C)(k:Q)(h:xB i->C->Wq Q->P:=by
  intro a b d;refine wz a b ?_;refine wz a.s b ?_;refine wz a.s.s b ?_;refine wz a.s.s.s b ?_;try simp only[pU]
  exact d.o):P:=h trivial s k
theorem ahx(xs:JK Ql)(o:Nat)(u:Ql)(h:o<N xs):(xs.set o u).take (o+1)=xs.take o++[u]:=by rw[List.set_eq_take_append_cons_drop,Zd h];grind
def ahy(xs:JK Ql)(o k:Nat)(u:Ql)(h:o<k):(xs.set o u).drop k=xs.drop k:=List.drop_set_of_lt h
theorem lu{base:Nat}{e:TypeId}{sz:Nat}{v:Ql}{n g:Nat}(hg:v.ownBlock=O g):∀(vs:JK Ql) (o:Nat) {w:U} {xs:JK Ql},w.ownsRow base e sz v n xs->o+N vs<=n*sz->
  (w.setCells g o vs).ownsRow base e sz v n (xs.take o++vs++xs.drop (o+N vs))
 |[],o,w,xs,h,_=>by simpa [World.setCells] using h
 |u::r,o,w,xs,h,hl=>by
  have d:=h.1;simp only[Zu]at hl;have a:=lu hg r (o+1) (zk h hg (j:=o) X u) X;rw[ahx xs o u X,ahy xs o _ u X]at a;have b:xs.take o++u::r++xs.drop (o+N (u::r))=xs.take o++[u]++r++xs.drop (o+1+N r):=by grind
  rw[b];exact a
theorem aB.setCells{s:Pm}{g:Nat}(hg:¬s g):∀(vs:JK Ql) (o:Nat) (W:U),aB s W (W.setCells g o vs)
 |[],_,W=>Xj _ W
 |u::r,o,W=>(Xu W (aD g o) u hg).trans (aB.setCells hg r (o+1) (Qn W (aD g o) u))
theorem alk(h:w.ownsRow base e sz (Z (O (aD g 0)) n cap) n xs)(hc:n+1<=cap):∃b,N b=sz/\w.ownsRow base e sz (Z (O (aD g 0)) (n+1) cap) (n+1) (xs++b):=by
 rcases h.2 with⟨h0,_⟩|⟨g',pQ,iw,e1,hb,hh,hn,hm,hs,ht⟩
 .cases h0
 injection e1 with e1 _ e2;injection e1 with e1;injection e1 with e1;subst e1 e2;have f:(n+1)*sz<=cap*sz:=Nat.mul_le_mul_right _ hc;have d:(n+1)*sz=n*sz+sz:=Nat.succ_mul n sz;have i:N iw.toList=cap*sz:=X;have a:N ((iw.toList.drop (n*sz)).take sz)=sz:=Qb;refine⟨(iw.toList.drop (n*sz)).take sz,a,⟨Qb,.inr ⟨g,cap,iw,rfl,hb,hh,hc,hm,hs,?_⟩⟩⟩;rw[d,List.take_add,ht]
theorem apm(h:w.ownsRow base e sz (Z (O (aD g 0)) n cap) n xs)(hm:m<=n):w.ownsRow base e sz (Z (O (aD g 0)) m cap) m (xs.take (m*sz)):=by
 rcases h.2 with⟨h0,_⟩|⟨g',pQ,iw,e1,hb,hh,hn,hmx,hs,ht⟩
 .cases h0
 injection e1 with e1 _ e2;injection e1 with e1;injection e1 with e1;subst e1 e2;have a:m*sz<=n*sz:=Nat.mul_le_mul_right _ hm;refine⟨by rw[Jb,h.1];omega,.inr ⟨g,cap,iw,rfl,hb,hh,X,hmx,hs,?_⟩⟩;grind
def qp(h:w.ownsRow base e sz (Z (O (aD g 0)) n cap) n xs):n<=cap/\cap<=maxLen/\(∀j u,xs[j]? = O u->Qo w (aD g j)=O u)/\(∀j,j<cap*sz->(Qo w (aD g j)).isSome=T)/\(∀j,w.frozen? (aD g j)=F)/\w.shape? g=O (e,cap*sz)/\g<M (H w):=by
 rcases h.2 with⟨h0,_⟩|⟨g',pQ,iw,e1,hb,hh,hn,hmx,hs,ht⟩
 .cases h0
 injection e1 with e1 _ e2;injection e1 with e1;injection e1 with e1;subst e1 e2;have b:=(Xx.1 hh).1;refine⟨hn,hmx,λj u a=>?_,λj a=>?_,λj=>?_,?_,b⟩
 .rw[<-ht,XQ]at a;split at a
  .simp only[World.cell?,hh]
   simp_all
  .cases a
 .simp only[World.cell?,hh]
  simp_all
 .simp[World.frozen?,hh]
 .simp[World.shape?,hh,hs]
def CG(w:U)(dT sT ty elem:TypeId)(size b o aco asI:Nat)(a:Addr)(Mg asJ:Nat)(cs:JK Ql)
  (hu:P.underlying dT=O (.slice elem)) (hs:(P.info? elem).map (·.size)=O size) (hn:N cs=Nat.min Mg aco*size)
  (hsrc:∀j v,cs[j]? = O v->w.cell? (a.add j)=O v) (hc:∀j,j<N cs->(Qo w (aD b (o+j))).isSome=T) (hf:∀j,j<N cs->w.frozen? (aD b (o+j))=F) (h1:∀v∈cs,v.oneCell' = T) :
  (Builtin.copy_ #[dT,sT] ty #[Z (O (aD b o)) aco asI,Z (O a) Mg asJ]).run P w=.ok (goInt (Nat.min Mg aco)) (w.setCells b o cs):=by
 have d:=run_loadCells_list (P:=P) w a cs hsrc;have e:=run_storeCells_cells (P:=P) b o cs 0 w X X h1
 cases hq:P.info? elem with
 |none=>simp_all
 |some i =>
  have f:i.size=size:=Qf;simp[Builtin.copy_,run_underlying hu,Builtin.lenOf,Builtin.firstCells,sizeOf,typeInfo,hq,f,<-hn,d,e]
def adr(w:U)(t e ty:TypeId)(z:Ql)(ht:P.underlying t=O (.slice e))(hv:∀w,(zeroValue e).run P w=.ok z w)(zs:JK Ql)(hz:(Builtin.zeroCells z.cells 1).toList=zs)(h1:∀v∈zs,v.oneCell' = T)(b o c:Nat)
  (hc:∀j,j<N zs->(Qo w (aD b (o+j))).isSome=T) (hf:∀j,j<N zs->w.frozen? (aD b (o+j))=F) :
  (Builtin.clear_ #[t] ty #[.slice (O (aD b o)) 1 c]).run P w=.ok (.tuple #[]) (w.setCells b o zs):=by have a:=run_storeCells_cells (P:=P) b o zs 0 w X X h1;simp only[Xg]at a;simp[Builtin.clear_,run_underlying ht,hv,hz,a]
def iA(t:bB):JK Value:=[I Qp (t.1:Int),I Qp (t.2:Int)]
def U0{t tx ty:TypeId}{i:TypeInfo}(hi:P.info? e=O i)(h1:P.underlying t=O (.slice e))(h2:P.underlying tx=O (.slice e))(v x:Ql)(w:U):(Builtin.append_ #[t,tx] ty #[v,x]).run P w=(Builtin.append_ #[t,t] ty #[v,x]).run P w:=by unfold Builtin.append_;cases v <;> simp[run_underlying h1,run_underlying h2,sizeOf,typeInfo,hi]
theorem alm{ys:JK Ql}(l r:Ql)(hx:N xs=n*2)(hy:N ys=2)(hi:i<n) :
  (((xs++ys).take ((i+1)*2)++xs.drop (i*2)++(xs++ys).drop ((i+1)*2+N (xs.drop (i*2)))).take (i*2)++[l,r]++((xs++ys).take ((i+1)*2)++xs.drop (i*2)++(xs++ys).drop ((i+1)*2+N (xs.drop (i*2)))).drop (i*2+[l,r].length))=xs.take (i*2)++[l,r]++xs.drop (i*2):=by have a:(xs++ys).drop ((i+1)*2+N (xs.drop (i*2)))=[]:=List.drop_eq_nil_of_le Qb;have b:N ((xs++ys).take ((i+1)*2))=(i+1)*2:=Qb;rw[a,Zy,List.take_append_of_le_length X,List.drop_left' (by rw[b];simp;omega),List.take_take,Nat.min_eq_left X,List.take_append_of_le_length X]
def Tryz.F7:(V.info? 165).map (λi=>(i.zero,i.size,i.bytes))=O (O (Qt #[I Qp 0,I Qp 0]),2,16):=Qd
def U1(base g n cap i vb:Nat)(l r:Ql)(xs:JK Ql)(w:U)(bG:w.ownsRow base 165 2 (Z (O (aD g 0)) n cap) n xs)(sK:∀u∈xs,u.oneCell' = T)(F9:l.oneCell' = T)(lN:r.oneCell' = T)(hi:i<n)(Bn:n+1<=cap)(zl:GB w vb 165 #[l,r])(fG:vb≠g) :
  Calls V 138 #[Z (O (aD g 0)) n cap,I J i,Z (O (aD vb 0)) 1 1] w λe w'=>
   e=Qu (Z (O (aD g 0)) (n+1) cap)/\w'.ownsRow base 165 2 (Z (O (aD g 0)) (n+1) cap) (n+1) (xs.take (i*2)++[l,r]++xs.drop (i*2))/\aB (λb=>b≠g) w w':=by
 obtain⟨i0,B,ah,C,ai⟩:=XB Tryz.F7;have ni:(V.info? 165).map (·.size)=O 2:=by rw[B];simp[C]
 obtain⟨_,S,k,m,aa,ae,aT⟩:=qp bG;have z:=bG.1;have aj:cap<=9223372036854775807:=by unfold maxLen at S;omega
 have P:w.shape? vb=O (165,2):=by have h:w.heap[vb]? = O (Qs #[l,r] 165 (0,0)):=zl;simp[World.shape?,h]
 have ag:∀lb cb,(callFunc 179 #[Z (O (aD vb 0)) 1 1,Z (O (aD g ((i+1)*2))) lb cb]).run V w=.ok (.value (Qq F)) w:=λlb cb=>by
  rw[run_callFunc_extern func179 Qd Qd Qd (e:=Extern.SlicesOverlaps.overlaps #[134,134] #[4]) Qd,
   Lib.run_overlaps_apart w 134 4 165 underlying134 2 (λW=>by simp[sizeOf,typeInfo,B,C]) (aD vb 0) (aD g ((i+1)*2)) 1 1 lb cb fG 165 165 2 (cap*2) P ae X (zl.frozen 0) (zl.frozen 2)]
  rfl
 have A:N (xs.drop (i*2))=n*2-i*2:=by rw[List.length_drop,z]
 have t:∀G K sc,(Builtin.copy_ #[135,135] G #[Z (O (aD g ((i+1)*2))) (n-i) K,Z (O (aD g (i*2))) (n+1-i) sc]).run V w.drew=.ok (goInt (Nat.min (n+1-i) (n-i))) (w.drew.setCells g ((i+1)*2) (xs.drop (i*2))):=λG K sc=>
  CG w.drew _ _ G 165 2 g ((i+1)*2) (n-i) K (aD g (i*2)) (n+1-i) sc (xs.drop (i*2)) underlying135 ni (by rw[A];simp only[Nat.min_def];split <;> omega)
   (λj v y=>by rw[Zn];exact k (i*2+j) v (by rwa [List.getElem?_drop]at y))
   (λj y=>m _ X) (λj y=>aa _) (λv hv=>sK v (List.mem_of_mem_drop hv))
 obtain⟨L,D⟩:=eY (w.drew.setCells g ((i+1)*2) (xs.drop (i*2)));have f:w.drew.ownsRow base 165 2 (Z (O (aD g 0)) n cap) n xs:=bG;obtain⟨ys,af,p⟩:=alk f Bn;have a:=lu (v:=Z (O (aD g 0)) (n+1) cap) (g:=g) rfl (xs.drop (i*2)) ((i+1)*2) p (by rw[A];omega);rw[<-D]at a t;have dP:aB (λb=>b≠g) w L:=by rw[D];exact(aB.alj w).trans (aB.setCells (λh=>h rfl) _ _ _)
 obtain⟨_,_,q,Bo,YS,_,_⟩:=qp a;have Q:=zl.bT dP fG;have R:∀G K,(Builtin.copy_ #[135,134] G #[Z (O (aD g (i*2))) (n+1-i) K,Z (O (aD vb 0)) 1 1]).run V L=.ok (goInt (Nat.min 1 (n+1-i))) (L.setCells g (i*2) [l,r]):=λG K=>
  CG L _ _ G 165 2 g (i*2) (n+1-i) K (aD vb 0) 1 1 [l,r] underlying135 ni (by simp only[Nat.min_def];split <;> simp;omega)
   (λj v y=>by rw[Zn,ZT,Q.cell];simpa using y)
   (λj y=>Bo _ (by simp at y;omega)) (λj y=>YS _) (λv hv=>by simp at hv;rcases hv with rfl|rfl <;> assumption)
 have d:=lu (v:=Z (O (aD g 0)) (n+1) cap) (g:=g) rfl [l,r] (i*2) a Qi;rw[alm l r z af hi]at d;have ru:Qm ((L.setCells g (i*2) [l,r]).ownsRow base 165 2 (Z (O (aD g 0)) (n+1) cap) (n+1) (xs.take (i*2)++[l,r]++xs.drop (i*2))/\aB (λb=>b≠g) w (L.setCells g (i*2) [l,r])):=⟨d,dP.trans (aB.setCells (λh=>h rfl) _ _ _)⟩;clear bG f p a d dP k m aa q Bo YS zl Q af A z sK P ae aT ni B ah C ai S D;have ak:¬(cap=i+1):=X;have au:¬(cap=i):=X;have dB:IntKind.i64.wrap ((i:Int)+1)=(i:Int)+1:=by rw[IntKind.wrap_i64];omega
 have bL:(0:Int)<=(i:Int)+1:=X;have av:(i:Int)+1<=(n:Int)+1:=X;have ax:((i:Int)+1).toNat=i+1:=X;have ay:(i:Int)<=(n:Int)+1:=X;go_enter func138,ntmps138;go_wp2_with (simp only[ag]);go_region_law (refine step_copy_runI rfl _ _ 135 135 rfl _ _ (by simp[Act.eval,Act.put]) (by simp[Act.eval,Act.put]) (t _ _ _) ?_);go_wp2_with (at_builtin;refine wpList_copy_runI _ rfl _ _ 135 134 rfl _ _ rfl rfl (R _ _) ?_);go_ret;exact⟨rfl,ru.o⟩
theorem ahA{Zq:JK Ql}(l r:Ql)(hx:N xs=n*2)(hZ:N Zq=(n+1)*2)(hi:i<n)(hz:Zq.take (i*2)=xs.take (i*2)) :
  ((Zq.take (i*2)++[l,r]++Zq.drop (i*2+[l,r].length)).take ((i+1)*2)++xs.drop (i*2)++(Zq.take (i*2)++[l,r]++Zq.drop (i*2+[l,r].length)).drop ((i+1)*2+N (xs.drop (i*2))))=xs.take (i*2)++[l,r]++xs.drop (i*2):=by have a:N (Zq.take (i*2)++[l,r])=(i+1)*2:=Qb;have b:(Zq.take (i*2)++[l,r]++Zq.drop (i*2+[l,r].length)).drop ((i+1)*2+N (xs.drop (i*2)))=[]:=List.drop_eq_nil_of_le Qb;rw[b,Zy,List.take_left' a,hz]
theorem ads(base n vb:Nat)(v l r:Ql)(xs:JK Ql)(w:U)(bG:w.ownsRow base 165 2 v n xs)(hb:base<=M (H w))(hn:n<=1000000)(F9:l.oneCell' = T)(lN:r.oneCell' = T)(zl:GB w vb 165 #[l,r]) :
  Calls V 138 #[v,I J n,Z (O (aD vb 0)) 1 1] w λe i=>
   ∃d,e=Qu d/\i.ownsRow base 165 2 d (n+1) (xs++[l,r])/\aB (λb=>v.ownBlock≠O b) w i/\(d.ownBlock=v.ownBlock∨∃g,d.ownBlock=O g/\M (H w)<=g):=by
 obtain⟨i0,f,k,m,p⟩:=XB Tryz.F7;obtain⟨d,i,q,t,z,A⟩:=XL (P:=V) w base 135 135 165 i0 _ 2 16 underlying135 f k m p rfl Qc v n xs bG (aD vb 0) 1 1 [l,r] rfl
  (λj u C=>by rw[Zn,ZT,zl.cell];simpa using C) (λu K=>Qb) Qg X hb
 have a:(Builtin.append_ #[135,134] 135 #[v,.slice (O (aD vb 0)) 1 1]).run V w=.ok d i:=(U0 f underlying135 underlying134 _ _ _).trans q;have y:Qm (∃u,Ending.returned d = Qu u/\i.ownsRow base 165 2 u (n+1) (xs++[l,r])/\aB (λb=>v.ownBlock≠O b) w i/\(u.ownBlock=v.ownBlock∨∃g,u.ownBlock=O g/\M (H w)<=g)):=⟨d,rfl,t,Xv z (λr e q=>q e),by
  grind⟩
 obtain⟨D,G,B,rfl⟩:=Xz t;clear q t z A zl f k m p;rcases bG.2 with⟨rfl,rfl⟩|⟨g,cap,iw,rfl,-,-,hnc,hcm,-⟩
 .clear bG;go_enter func138,ntmps138;go_wp2_with (at_builtin;refine Lib.wpList_append_run _ rfl _ _ _ _ rfl _ _ rfl rfl _ _ a ?_);go_ret;exact y.o
 .clear bG;go_enter func138,ntmps138;go_wp2_with (at_builtin;refine Lib.wpList_append_run _ rfl _ _ _ _ rfl _ _ rfl rfl _ _ a ?_)
  all_goals (go_ret;exact y.o)
theorem YT(base g n cap i vb:Nat)(l r:Ql)(xs:JK Ql)(w:U)(bG:w.ownsRow base 165 2 (Z (O (aD g 0)) n cap) n xs)(hb:base<=M (H w))(hn:n<=1000000)(sK:∀u∈xs,u.oneCell' = T)(F9:l.oneCell' = T)(lN:r.oneCell' = T)(hi:i<n)(Bn:cap<n+1)(zl:GB w vb 165 #[l,r]) :
  Calls V 138 #[Z (O (aD g 0)) n cap,I J i,Z (O (aD vb 0)) 1 1] w λe w'=>
   ∃G,e=Qu (Z (O (aD (M (H w)) 0)) (n+1) G)/\w'.ownsRow base 165 2 (Z (O (aD (M (H w)) 0)) (n+1) G) (n+1) (xs.take (i*2)++[l,r]++xs.drop (i*2))/\Bw w w':=by
 obtain⟨i0,R,ax,S,W⟩:=XB Tryz.F7;have ni:(V.info? 165).map (·.size)=O 2:=by rw[R];simp[S]
 obtain⟨aM,az,a,aa,aA,aC,aT⟩:=qp bG;have C:=bG.1;have nU:cap=n:=X;subst nU;have D:i+(cap+1-i)=cap+1:=X;have af:(cap:Int)+1-(i:Int)=((cap+1-i:Nat):Int):=X;have B:(Builtin.firstCells i0.size i (Z (O (aD g 0)) i cap)).run V w.drew=.ok (xs.take (i*2)).toArray w.drew:=by
  rw[S];exact run_firstCells_some w.drew 2 i (aD g 0) i cap (xs.take (i*2)) (by rw[Jb];omega) (λj v f=>by
   rw[Zn,ZT];rw[XQ]at f;split at f
   .exact a j v f
   .cases f)
 have m:=Lib.run_append_grow_zeros w 135 3 135 165 i0 _ J J underlying135 underlying3 R ax (O (aD g 0)) i cap (xs.take (i*2)) B (cap+1-i) X X X X (by rw[W];omega) (by rw[W,D];exact growslice_fits X X);rw[<-af,D]at m;obtain⟨G,hG⟩:=eY (grownCap w (cap+1) cap 165);obtain⟨d,k⟩:=eY ((xs.take (i*2)).toArray++Builtin.zeroCells (Value.agg #[.int Qp 0,.int Qp 0]).cells (cap+1-i)++Builtin.zeroCells (Value.agg #[.int Qp 0,.int Qp 0]).cells (G-(cap+1)):Array Ql);rw[<-hG,<-k]at m;have ay:cap+1<=G:=by rw[hG];exact grownCap_ge w _ _ _
 have K:G<=maxLen:=by rw[hG];exact grownCap_le_maxLen w _ _ _ Qg
 have ag:N (xs.take (i*2))=i*2:=by rw[Jb];omega
 have p:d.size=G*2:=by rw[k];simp[Builtin.zeroCells,Value.cells,ag];omega
 have ah:d.toList.take (i*2)=xs.take (i*2):=by grind
 obtain⟨N1,z⟩:=eY (w.drew.alloc (Qs d 165));rw[<-z]at m;have YU:N1.heap[M (H w)]? = O (Qs d 165 (0,0)):=by rw[z];exact qj w.drew _
 have q:Bw w N1:=by rw[z];exact((Za _ _).drew).alloc (Zb _) _
 have L:N1.ownsRow base 165 2 (Z (O (aD (M (H w)) 0)) (cap+1) G) (cap+1) (d.toList.take ((cap+1)*2)):=
  ⟨by rw[Jb,Array.length_toList,p];omega,.inr ⟨M (H w),G,d,rfl,hb,YU,ay,K,p,rfl⟩⟩
 have t:=lu (g:=M (H w)) rfl [l,r] (i*2) L Qi;have P:N (xs.drop (i*2))=cap*2-i*2:=by rw[List.length_drop,C]
 obtain⟨_,_,_,Bo,YS,_,_⟩:=qp L;obtain⟨_,_,_,ae,PS,_,_⟩:=qp t;obtain⟨N2,U2⟩:=eY (N1.setCells (M (H w)) (i*2) [l,r]);rw[<-U2]at t ae PS;have y:Bw w N2:=by rw[U2];exact q.trans ((aB.setCells (s:=λb=>b<M (H w)) (λh=>Nat.lt_irrefl _ h) _ _ _).aj q.size (λ_ h=>h))
 have ai:N2.drew.ownsRow base 165 2 (Z (O (aD (M (H w)) 0)) (cap+1) G) (cap+1) _:=t;have Q:=lu (g:=M (H w)) rfl (xs.drop (i*2)) ((i+1)*2) ai (by rw[P];omega);have ak:=zl.up q;have au:∀ty dc,(Builtin.copy_ #[135,134] ty #[Z (O (aD (M (H w)) (i*2))) (cap+1-i) dc,Z (O (aD vb 0)) 1 1]).run V N1=.ok (goInt (Nat.min 1 (cap+1-i))) N2:=λty dc=>by
  rw[U2];exact CG N1 _ _ ty 165 2 (M (H w)) (i*2) (cap+1-i) dc (aD vb 0) 1 1 [l,r] underlying135 ni (by simp only[Nat.min_def];split <;> simp;omega)
   (λj v f=>by rw[Zn,ZT,ak.cell];simpa using f)
   (λj f=>Bo _ (by simp at f;omega)) (λj f=>YS _) (λv hv=>by simp at hv;rcases hv with rfl|rfl <;> assumption)
 obtain⟨N3,A⟩:=eY (N2.drew.setCells (M (H w)) ((i+1)*2) (xs.drop (i*2)));have av:∀ty dc sc,(Builtin.copy_ #[135,135] ty #[Z (O (aD (M (H w)) ((i+1)*2))) (cap-i) dc,Z (O (aD g (i*2))) (cap-i) sc]).run V N2.drew=.ok (goInt (Nat.min (cap-i) (cap-i))) N3:=λty dc sc=>by
  rw[A];exact CG N2.drew _ _ ty 165 2 (M (H w)) ((i+1)*2) (cap-i) dc (aD g (i*2)) (cap-i) sc (xs.drop (i*2)) underlying135 ni (by rw[P];simp only[Nat.min_def];split <;> omega)
   (λj v f=>by
    rw[Zn];have h1:=a (i*2+j) v (by rwa [List.getElem?_drop]at f);exact cB y.drew h1)
   (λj f=>ae _ X) (λj f=>PS _) (λv hv=>sK v (List.mem_of_mem_drop hv))
 rw[<-A,ahA l r C (by rw[Jb,Array.length_toList,p];omega) hi (by rw[List.take_take,Nat.min_eq_left X];exact ah)]at Q;have ru:Qm (N3.ownsRow base 165 2 (Z (O (aD (M (H w)) 0)) (cap+1) G) (cap+1) (xs.take (i*2)++[l,r]++xs.drop (i*2))/\Bw w N3):=⟨Q,by rw[A];exact y.drew.trans ((aB.setCells (s:=λb=>b<M (H w)) (λh=>Nat.lt_irrefl _ h) _ _ _).aj (by exact y.size) (λ_ h=>h))⟩;have aF:G<=9223372036854775807:=by unfold maxLen at K;omega
 have aH:¬(G=i):=X;have aG:¬(G=i+1):=X;have aI:¬(cap=i):=X;have dB:IntKind.i64.wrap ((i:Int)+1)=(i:Int)+1:=by rw[IntKind.wrap_i64];omega
 have bL:(0:Int)<=(i:Int)+1:=X;have aJ:(i:Int)+1<=(cap:Int)+1:=X;have aK:((i:Int)+1).toNat=i+1:=X;have aL:(i:Int)<=(cap:Int):=X;clear bG L t ai Q B k p ah z U2 A YU q y aa Bo ae aA YS PS a zl ak P ag C sK aC ni R ax S W hG D af az K;go_enter func138,ntmps138;go_wp2_with (first
  |(at_builtin;refine Lib.wpList_append_run _ rfl _ _ _ _ rfl _ _ rfl rfl _ _ m ?_)
  |(at_builtin;refine wpList_copy_runI _ rfl _ _ 135 134 rfl _ _ rfl rfl (au _ _) ?_))
 go_region_law (refine step_copy_runI rfl _ _ 135 135 rfl _ _ (by simp[Act.eval,Act.put]) (by simp[Act.eval,Act.put]) (av _ _ _) ?_);go_wp2;go_ret;exact⟨G,rfl,ru.o⟩
theorem alp{zs:JK Ql}(hx:N xs=(i+1+m)*2) :
  ((xs.take (i*2)++xs.drop ((i+1)*2)++xs.drop (i*2+N (xs.drop ((i+1)*2)))).take ((i+m)*2)++zs++(xs.take (i*2)++xs.drop ((i+1)*2)++xs.drop (i*2+N (xs.drop ((i+1)*2)))).drop ((i+m)*2+N zs)).take ((i+m)*2)=xs.take (i*2)++xs.drop ((i+1)*2):=by have a:N (xs.take (i*2)++xs.drop ((i+1)*2))=(i+m)*2:=Qb;rw[List.take_left' a,Jj (xs.take (i*2)++xs.drop ((i+1)*2)) zs,List.take_left' a]
def Ep(ag:JK bB)(i:Nat):(ag.flatMap iA).take (i*2)=(ag.take i).flatMap iA:=by
 induction ag generalizing i with
 |nil=>simp
 |cons t ag ih =>
  cases i with
  |zero=>simp
  |succ i =>
   rw[List.take_succ_cons,Zr,Zr,<-ih i];show (iA t++_).take _=_;rw[show (i+1)*2=N (iA t)+i*2 by show _=2+_;omega,List.take_length_add_append]
def Er(ag:JK bB)(i:Nat):(ag.flatMap iA).drop (i*2)=(ag.drop i).flatMap iA:=by
 induction ag generalizing i with
 |nil=>simp
 |cons t ag ih =>
  cases i with
  |zero=>simp
  |succ i =>
   rw[List.drop_succ_cons,Zr,<-ih i];show (iA t++_).drop _=_;rw[show (i+1)*2=N (iA t)+i*2 by show _=2+_;omega,List.drop_length_add_append]
def Nv(ag:JK bB):∀u∈ag.flatMap iA,u.oneCell' = true:=by intro u a;obtain⟨t,_,h⟩:=ZA.1 a;unfold iA at h;simp at h;rcases h with rfl|rfl <;> rfl
def alq(ag:JK bB)(i:Nat)(t:bB):(ag.flatMap iA).take (i*2)++iA t++(ag.flatMap iA).drop (i*2)=(ag.take i++t::ag.drop i).flatMap iA:=by rw[Ep,Er,ZW,Zr,Jj]
def alr(ag:JK bB)(i:Nat):(ag.flatMap iA).take (i*2)++(ag.flatMap iA).drop ((i+1)*2)=(ag.eraseIdx i).flatMap iA:=by rw[Ep,Er,<-ZW,List.eraseIdx_eq_take_drop_succ]
theorem YV(base i vb:Nat)(v:Ql)(ag:JK bB)(t:bB)(w:U)(bG:w.ownsRow base 165 2 v (N ag) (ag.flatMap iA))(hb:base<=M (H w))(hl:N ag<=1000000)(hi:i<=N ag)(zl:GB w vb 165 #[I Qp (t.1:Int),I Qp (t.2:Int)])(fG:v.ownBlock≠O vb) :
  Calls V 138 #[v,I J (i:Int),Z (O (aD vb 0)) 1 1] w λe a=>
   ∃d,e=Qu d/\a.ownsRow base 165 2 d (N (ag.take i++t::ag.drop i)) ((ag.take i++t::ag.drop i).flatMap iA)/\aB (λb=>v.ownBlock≠O b) w a/\(d.ownBlock=v.ownBlock∨∃g,d.ownBlock=O g/\M (H w)<=g):=by
 have k:N (ag.take i++t::ag.drop i)=N ag+1:=by grind
 rw[k,<-alq];by_cases m:i=N ag
 .subst m;have l:(ag.flatMap iA).take (N ag*2)++iA t++(ag.flatMap iA).drop (N ag*2)=ag.flatMap iA++[I Qp (t.1:Int),I Qp (t.2:Int)]:=by rw[Ep,Er,Z0,List.drop_length];simp[iA]
  rw[l];exact ads base (N ag) vb v _ _ _ w bG hb hl rfl rfl zl
 .rcases bG.2 with⟨_,h0⟩|⟨g,cap,iw,rfl,-⟩
  .omega
  by_cases n:N ag+1<=cap
  .refine(U1 base g (N ag) cap i vb _ _ _ w bG (Nv ag) rfl rfl X n zl (λe=>fG (by rw[e];rfl))).mono ?_;rintro e a ⟨rfl,f,j⟩;exact⟨_,rfl,f,j.mono (λb _ h e=>h (by rw[e];rfl)),.inl rfl⟩
  .refine(YT base g (N ag) cap i vb _ _ _ w bG hb hl (Nv ag) rfl rfl X X zl).mono ?_;rintro e a ⟨G,rfl,f,j⟩;exact⟨_,rfl,f,Xl j,.inr ⟨_,rfl,Zb _⟩⟩
theorem YW(base g cap i m:Nat)(xs:JK Ql)(w:U)(bG:w.ownsRow base 165 2 (Z (O (aD g 0)) (i+1+m) cap) (i+1+m) xs)(sK:∀u∈xs,u.oneCell' = T)(hm:i+1+m<=1000000) :
  Calls V 191 #[Z (O (aD g 0)) (i+1+m) cap,I J (i:Int),I J ((i:Int)+1)] w λe w'=>
   e=Qu (Z (O (aD g 0)) (i+m) cap)/\w'.ownsRow base 165 2 (Z (O (aD g 0)) (i+m) cap) (i+m) (xs.take (i*2)++xs.drop ((i+1)*2))/\aB (λb=>b≠g) w w':=by
 obtain⟨i0,K,aa,ae,av⟩:=XB Tryz.F7;obtain⟨ax,L,f,k,P,af,aT⟩:=qp bG;have C:=bG.1;have ag:cap<=9223372036854775807:=by unfold maxLen at L;omega
 obtain⟨z,a⟩:=eY (xs.drop ((i+1)*2));have dY:N z=m*2:=Qb;obtain⟨A,hA,Q⟩:∃A:Addr,(if cap=i+1 then O ((aD g 0):Addr) else O (aD g ((i+1)*2)))=O A/\Qm (∀t u,z[t]? = O u->w.drew.cell? (A.add t)=O u):=by
  by_cases h:cap=i+1
  .refine⟨(aD g 0),by simp[h],λt u q=>?_⟩
   grind
  .refine⟨(aD g ((i+1)*2)),by simp[h],λt u q=>?_⟩;rw[a,List.getElem?_drop]at q;rw[Zn];exact f _ _ q
 have s1:=Zh dY;have s2:Qm (∀u∈z,u.oneCell' = T):=λu q=>Qb;have s3:Qm (∀t,t<N z->(Qo w.drew (aD g (0+i*2+t))).isSome=T/\w.drew.frozen? (aD g (0+i*2+t))=F):=λt ht=>by rw[dY]at ht;rw[ZT];exact⟨k _ X,P _⟩
 obtain⟨R,n⟩:=eY (w.drew.setCells g (0+i*2) z);have d:w.drew.ownsRow base 165 2 (Z (O (aD g 0)) (i+1+m) cap) (i+1+m) xs:=bG;have l:=lu (v:=Z (O (aD g 0)) (i+1+m) cap) (g:=g) rfl z (0+i*2) d (by rw[dY];omega);rw[<-n,ZT]at l;have dP:aB (λb=>b≠g) w R:=by rw[n];exact(aB.alj w).trans (aB.setCells (λh=>h rfl) _ _ _)
 obtain⟨_,_,_,Bo,YS,_,_⟩:=qp l;have D:∀W,(zeroValue 165).run V W=.ok (Qt #[I Qp 0,I Qp 0]) W:=λW=>by simp[zeroValue,typeInfo,K,aa]
 obtain⟨S,p⟩:=eY ([I Qp 0,I Qp 0]:JK Ql);have G:N S=2:=by rw[p];rfl
 have iX:∀ty c,(Builtin.clear_ #[135] ty #[Z (O (aD g ((i+m)*2))) 1 c]).run V R=.ok (.tuple #[]) (R.setCells g ((i+m)*2) S):=λty c=>
  adr R 135 165 ty _ underlying135 D S (by rw[p];kernel_rfl) (λu q=>by rw[p]at q;simp at q;rcases q with rfl|rfl <;> rfl) g ((i+m)*2) c (λj hj=>Bo _ X) (λj hj=>YS _)
 obtain⟨W2,B⟩:=eY (R.setCells g ((i+m)*2) S);have r:=lu (v:=.slice (O (aD g 0)) (i+1+m) cap) (g:=g) rfl S ((i+m)*2) l (by rw[G];omega);rw[<-B]at r iX;have y:=apm r (m:=i+m) X;rw[a,alp C]at y;have ru:Qm (W2.ownsRow base 165 2 (.slice (O (aD g 0)) (i+m) cap) (i+m) (xs.take (i*2)++xs.drop ((i+1)*2))/\aB (λb=>b≠g) w W2):=⟨y,dP.trans (by rw[B];exact aB.setCells (λh=>h rfl) _ _ _)⟩;have HW:=Zh n;have ah:i+1+m-(i+1)=m:=X;have ai:i+1+m-(i+m)=1:=X;have aj:i<=cap:=X;have ak:i+1<=cap:=X;have bL:(0:Int)<=(i:Int)+1:=X;have au:((i:Int)+1).toNat=i+1:=X;have uz:(i:Int)+1<=(i:Int)+1+(m:Int):=X;clear bG d l r y dP n B k Bo P YS f dY a C sK D p G af aT L;go_enter func191,ntmps191;go_wp2_with fail;go_region_law (refine step_append_room rfl (.tmp 22) (.tmp 25) 135 rfl 165 i0 2 underlying135 K ae g 0 i cap (by simp[Act.eval,Act.put]) A m (cap-(i+1)) z (by simp[Act.eval,Act.put]) s1.o Q.o s2.o X s3.o ?_;rw[<-HW.o]);go_wp2;go_ret;exact⟨rfl,ru.o⟩
def CJ(h:w.ownsRow base e 2 v (N ag) (ag.flatMap iA))(hl:N ag<=1000000):∃b cap,v=Z b (N ag) cap/\rF w b ag:=by
 rcases XP h with⟨rfl,h0⟩|⟨g,cap,rfl,_,_,hc⟩
 .have:=Zo h0;subst this;exact⟨Qr,0,rfl,Qa,λi a=>absurd a Qa⟩
 .refine⟨_,cap,rfl,X,λi a=>⟨g,0,rfl,?_,?_⟩⟩
  .rw[ZT];exact hc (i*2) _ (by have:=XO iA 2 (λ_=>rfl) (0,0) ag i 0 a X;rw[Xg]at this;rw[this];rfl)
  .rw[ZT];exact hc (i*2+1) _ (by rw[XO iA 2 (λ_=>rfl) (0,0) ag i 1 a X];rfl)
def rF.eG{A B:U}{Fq:Pm}{ao:LM}{ag:JK bB}(h:rF A ao ag)(hk:aB Fq A B)(hF:∀a,ao=O a->Fq a.block):rF B ao ag:=
 ⟨h.1,λi f=>by
  obtain⟨b,off,rfl,c0,e⟩:=h.2 i f;have d:=hk.block b (kX c0) (hF _ rfl);exact⟨b,off,rfl,by rw[Xr d];exact c0,by rw[Xr d];exact e⟩⟩
def U6{rk:Nat->Int}:∀(l ag:JK bB),(∀a∈ag,a.1<32/\a.2<32)->(∀a∈l,a.1<32/\a.2<32)->(∀a∈l.foldl (jH rk) ag,a.1<32/\a.2<32)/\N (l.foldl (jH rk) ag)<=N ag+N l
 |[],_,h,_=>⟨h,Qa⟩
 |t::l,ag,h,hl=>by
  have:=U6 (rk:=rk) l (jH rk ag t) (λa ha=>by
   rcases Gb ha with ha|rfl
   .exact h a ha
   .exact hl a Ji) (λa ha=>hl a (ZV _ ha))
  refine⟨this.1,ZU this.2 ?_⟩;have:=Nz rk ag t;simp only[Zu];omega
def alz(h:uA rk ag t=T):jH rk ag t=ag:=by unfold jH;rw[Zd h]
def apv(h:uA rk ag t=F):jH rk ag t=ag.take (rX rk ag t)++t::ag.drop (rX rk ag t):=by unfold jH;rw[h];rfl
def adv(lt:Nat->Bool):∀f i j,i<=j->bsF lt f i j<=j
 |0,_,_,h=>h
 |f+1,i,j,h=>by
  show (if i<j then _ else _)<=_;split
  .split
   .exact adv lt f _ _ X
   .exact ZU (adv lt f _ _ X) X
  .exact h
def alA(rk:Nat->Int)(ag:JK bB)(t:bB):rX rk ag t<=N ag:=adv _ _ _ _ (ZR _)
theorem U7{w:U}{base:Nat}{e t:TypeId}{sz:Nat}{v:Ql}{n:Nat}{xs:JK Ql}{G:Nat}{c:Array Ql}(h:w.ownsRow base e sz v n xs)(hg:GB w G t c)(fG:e≠t):v.ownBlock≠O G:=λb=>by obtain⟨d,f⟩:=Jp h b;have a:w.heap[G]? = O (Qs c t (0,0)):=hg;grind
theorem afq{wr w1 w2 w3 w4:U}{sb:Nat}{TS TT:TypeId}{CO:Array Ql}{av v':Ql}(ni:14<CO.size)(hg:GB w4 sb TS (CO.setIfInBounds 14 v))(ho:w4.ownsRow base TT 2 v' n xs)(hk:aB (λb=>b≠sb/\av.ownBlock≠O b) w wr)(h1:Bw wr w1)(h2:Bw w1 w2)(h3:Bw w2 w3)(h4:aB (λb=>v.ownBlock≠O b) w3 w4)(hv:v.ownBlock=av.ownBlock∨∃g,v.ownBlock=O g/\M (H w)<=g)(hv':v'.ownBlock=v.ownBlock∨∃g,v'.ownBlock=O g/\M (H w3)<=g)(fG:TT≠TS) :
  GB (Qn w4 (aD sb 14) v') sb TS (CO.setIfInBounds 14 v')/\(Qn w4 (aD sb 14) v').ownsRow base TT 2 v' n xs/\aB (λb=>b≠sb/\av.ownBlock≠O b) w (Qn w4 (aD sb 14) v')/\(v'.ownBlock=av.ownBlock∨∃g,v'.ownBlock=O g/\M (H w)<=g):=by
 have i:=ZU hk.size (ZU h1.size (ZU h2.size h3.size));have d:aB (λb=>b<M (H wr)) wr w3:=(Xl h1).dL ((Xl h2).dL (Xl h3) (λb a _=>a)) (λb a _=>(ZO a h1.size:b<M (H w1)));have f:=(hk.dL d (λb a _=>ZO a hk.size)).dL h4 (λb a h e=>by
  grind)
 refine⟨?_,?_,f.trans (Xu _ _ _ (λh=>h.1 rfl)),?_⟩
 .have:=hg.set 14 v'
  rwa [Array.setIfInBounds_setIfInBounds]at this
 .exact Xw ho (s:=λb=>b≠sb) (Xu _ _ _ (λh=>h rfl)) (λg e h=>U7 ho hg fG (h ▸ e))
 grind
theorem Y7(sb base:Nat)(CO:Array Ql)(av:Ql)(ag ts:JK bB)(ta:LM)(tc:Nat)(w:U)(hg:GB w sb 138 CO)(h14:CO[14]? = O av)(bG:w.ownsRow base 165 2 av (N ag) (ag.flatMap iA))(hb:base<=M (H w))(Pn:rF w ta ts)(apw:∀a,ta=O a->a.block≠sb/\av.ownBlock≠O a.block)(hl:N ag+N ts<=1000000)(ayo:∀a∈ag,a.1<32/\a.2<32)(atJ:∀a∈ts,a.1<32/\a.2<32) :
  Calls V 91 #[.pointer (O (aD sb 14)),Z ta (N ts) tc] w λe w'=>(∃v,e=Qu v)/\∃ai,GB w' sb 138 (CO.setIfInBounds 14 ai)/\w'.ownsRow base 165 2 ai (N (ts.foldl (jH gK) ag)) ((ts.foldl (jH gK) ag).flatMap iA)/\aB (λb=>b≠sb/\av.ownBlock≠O b) w w'/\(ai.ownBlock=av.ownBlock∨∃g,ai.ownBlock=O g/\M (H w)<=g):=by
 obtain⟨aW,aX⟩:=bH Pn apw;obtain⟨d,aA⟩:=eY (λk=>(ts.take k).foldl (jH gK) ag:Nat->JK bB);have aO:Qm (∀k,k<N ts->d (k+1)=jH gK (d k) (E ts k (0,0))):=λk hk=>by rw[aA];exact lV _ ag ts (0,0) hk
 have Ae:Qm (∀k,(∀a∈d k,a.1<32/\a.2<32)/\N (d k)<=1000000):=λk=>by have:=U6 (rk:=gK) (ts.take k) ag ayo (λa ha=>atJ a (XT ha));grind
 have HE:Qm (d (N ts)=ts.foldl (jH gK) ag):=by grind
 have aP:Qm (∀k,k<N ts->(E ts k (0,0)).1<32/\(E ts k (0,0)).2<32):=λk hk=>atJ _ (XI hk);have aH:Qm (GB w sb 138 (CO.setIfInBounds 14 av)/\w.ownsRow base 165 2 av (N (d 0)) ((d 0).flatMap iA)):=by
  refine⟨?_,by rw[aA];exact bG⟩;have:CO.setIfInBounds 14 av=CO:=by grind
  rw[this];exact hg
 obtain⟨EY,aY⟩:=bH ((Xx.1 h14).1) hb;have bu:N ts<=1000000:=X;clear Pn apw aA ayo atJ hg h14 bG hl hb;generalize ts.foldl (jH gK) ag=R at*;go_enter func91,ntmps91;go_wp2;go_loopw [10] (λiv wr=>∃(k:Nat) (B:Ql),k<=N ts/\iv=I J (k:Int)/\Qm (GB wr sb 138 (CO.setIfInBounds 14 B))/\Qm (wr.ownsRow base 165 2 B (N (d k)) ((d k).flatMap iA))/\Qm (aB (λb=>b≠sb/\av.ownBlock≠O b) w wr)/\Qm (B.ownBlock=av.ownBlock∨∃g,B.ownBlock=O g/\M (H w)<=g)) (λiv _=>N ts-(intOf iv).toNat)
 case atStart=>exact⟨0,av,ZR _,rfl,aH.o.1,aH.o.2,Xj _ _,.inl rfl⟩
 case round=>
  obtain⟨k,B,hk,rfl,HG,HO,HK,HV⟩:=hrel;by_cases aT:k<N ts
  .obtain⟨tb,bz,apw,oq,aC⟩:=(aW.o.eG HK.o (λa ha=>aX.o a ha)).2 k aT;subst apw;have ak:=aO.o k aT;have au:=aP.o k aT;have Ap:=Ae.o k;obtain⟨m,n,aZ,aL⟩:=CJ HO.o Ap.2;subst aZ;generalize bq:E ts k (0,0)=t at*;obtain⟨r,u⟩:=t;simp only at oq aC au;obtain⟨w1,dB,bL,sK⟩:=bI wr #[I Qp (r:Int),I Qp (u:Int)] 165;obtain⟨b0,b1⟩:=sK.k2;have P:Qo w1 (aD sb 14)=O (Z m (N (d k)) n):=by refine cB bL ?_;rw[HG.o.cell 14,JD,Zd rfl,Zd EY.o]
   have Q:Qm (∀x,Bw w1 x->Cb 136 #[Z m (N (d k)) n,Qt #[I Qp (r:Int),I Qp (u:Int)],.func (.func 137) #[] #[]] x (.tuple #[I J (rX gK (d k) (r,u):Int),Qq (uA gK (d k) (r,u))])):=λx hx=>PU m n (d k) (r,u) x (aL.aj (bL.trans (hx.mono bL.size))) Ap.1 au;obtain⟨aF,CE,bf,af⟩:=De (Ja HO.o bL) (HG.o.up bL) sK bL;have W:Qm (∀x vb,x.ownsRow base 165 2 (Z m (N (d k)) n) (N (d k)) ((d k).flatMap iA)->base<=M (H x)->GB x vb 165 #[I Qp (r:Int),I Qp (u:Int)]->(Value.slice m (N (d k)) n).ownBlock≠O vb->uA gK (d k) (r,u)=F->Calls V 138 #[Z m (N (d k)) n,I J (rX gK (d k) (r,u):Int),Z (O (aD vb 0)) 1 1] x λe w'=>∃v',e=Qu v'/\w'.ownsRow base 165 2 v' (N (d (k+1))) ((d (k+1)).flatMap iA)/\aB (λb=>(Value.slice m (N (d k)) n).ownBlock≠O b) x w'/\(v'.ownBlock=(Value.slice m (N (d k)) n).ownBlock∨∃g,v'.ownBlock=O g/\M (H x)<=g)):=λx vb ho hb hv fG ht=>by rw[ak,apv ht];exact YV base _ vb _ (d k) (r,u) x ho hb Ap.2 (alA _ _ _) hv fG
   have aQ:Qm (uA gK (d k) (r,u)=T->d (k+1)=d k):=λh=>by rw[ak];exact alz h
   have ax:=Zh (U7 HO.o HG.o Qc);have xz:=Ap.2;generalize rX gK (d k) (r,u)=FA,uA gK (d k) (r,u)=TB at*;obtain⟨L,aG⟩:=eY (N (d k));have rP:=Zh aG.symm;rw[<-aG]at P Q W ax aF CE HV xz HG HO;clear bL sK aL Ap ak au bq aG;obtain⟨wq,bg⟩:=eY (wr);subst bg;go_wp2_with fail;clear dB;refine wH w1 λi=>?_;refine IU 0 i ?_;refine wR 4 λK f=>?_;go_simp;refine mR (Q.o _ i) λC hb=>?_;refine oT f i hb λi=>?_;clear f K;refine IU 5 i ?_;refine wR 9 λK f=>?_;go_simp;refine f.o _ _ i λi=>?_;clear f K;refine wD ?_;try simp only[pV]
   try simp only[pV]
   have y:=Zh i;clear i
   cases TB with
   |true =>
    have aR:=Zh (aQ.o rfl);have z:Qm (GB C sb 138 (CO.setIfInBounds 14 (Z m L n))/\C.ownsRow base 165 2 (Z m L n) (N (d (k+1))) ((d (k+1)).flatMap iA)/\aB (λb=>b≠sb/\av.ownBlock≠O b) w C):=⟨CE.o.up y.o,by rw[aR.o,rP.o];exact Ja aF.o y.o,HK.o.trans ((Xl af.o).trans (Xl y.o))⟩;clear b0 b1 P Q W oq aC;refine gQ ?_;exact⟨k+1,Z m L n,X,Qe,z.o.1,z.o.2.1,z.o.2.2,HV.o⟩
   |false =>
    have A:=y.o;have Y8:=cB A P;obtain⟨bn,aM,ah⟩:=lX (bf.o.up A) (Ja aF.o A) (CE.o.up A);have aS:Qm ((Value.slice m L n).ownBlock≠O (M (H wq))):=λe=>Qj ((Xy HO.o e).2);have aU:Qm (M (H wq)≠sb):=λe=>Qj HG.o.lt;have aI:Qo C.drew (aD sb 14)=O (Z m L n):=Y8;obtain⟨w3,aN⟩:=eX (C.drew.alloc (Qs #[I Qp (r:Int),I Qp (u:Int)] 165));have D:Bw C w3:=by rw[<-aN];exact((Za _ _).drew).alloc (Zb _) _
    have aJ:=cB D Y8;have p:=Zh D;have ae:=W.o w3 (M (H C)) (Ja aM.o D) (ZU aY.o (ZU HK.o.size (ZU af.o.size (ZU A.size D.size)))) (by rw[<-aN];exact qj C.drew _) (λe=>Qj ((Xy aM.o e).2)) rfl;clear A D b0 b1 P Q W oq aC Y8;go_wp2_with fail;refine ZI (S:=λx=>aB (λb=>b≠sb/\(Value.slice m L n).ownBlock≠O b) C x) Qd (Xl ((Za (M (H C)) C).drew)) (λi=>?_);refine wK3 0 i ?_;refine wt 4 (I J (FA:Int)) i ?_;refine wT 5 (Qt #[I Qp (r:Int),I Qp (u:Int)]) i (λx hx=>?_) ?_
    .have aV:=bn.o.bT hx (show M (H wq)≠sb/\_ from ⟨aU.o,aS.o⟩);obtain⟨e0,e1⟩:=aV.k2;go_simp
    refine wJ 3 6 (λK f=>?_) λK f=>?_
    .go_simp;refine f.o _ _ i λi=>?_
     clear f K;refine wR 6 λK f=>?_;go_simp;refine f.o _ _ (Xl p.o) (λi=>?_);clear f K;refine wR 7 λK f=>?_;go_simp;refine Jg ae ?_;rintro e w4 ⟨v',rfl,wG,l,G⟩;obtain⟨za,zm,zc,rfl⟩:=Xz wG;have q:aB (λb=>b≠sb/\(Value.slice m L n).ownBlock≠O b) C w4:=(Xl p.o).trans (l.mono (λb _ h=>h.2));refine f.o _ _ q λi=>?_;clear f K;refine wK1 8 i ?_;have j:=ah.o.bT ((Xk (s:=λb=>b=sb) p.o (λb _ h=>by rw[h];exact ah.o.lt)).trans (l.mono (λb _ h e=>ax.o (h ▸ e)))) rfl;have ay:=j.frozen 14;have az:Qo w4 (aD sb 14)=O (Z m L n):=by rw[j.cell 14,JD,Zd rfl,Zd EY.o]
     refine wR 9 λK f=>?_;go_simp;refine f.o _ _ (q.trans (Xu _ _ _ (λh=>h.1 rfl))) (λi=>?_);clear f K;refine wD ?_;try simp only[pV]
     try simp only[pV]
     have z:=Zh (afq EY.o j wG HK.o af.o y.o p.o l HV.o G Qc);clear i ay az j wG l G q aI aJ ae;refine gQ ?_;exact⟨k+1,Z za zm zc,X,Qe,z.o.1,z.o.2.1,z.o.2.2.1,z.o.2.2.2⟩
    .go_simp;refine f.o _ _ (Xl p.o) (λi=>?_);clear f K;refine wR 3 λK f=>?_
     go_simp;refine f.o _ _ i λi=>?_;clear f K;refine wR 7 λK f=>?_;go_simp;refine Jg ae ?_;rintro e w4 ⟨v',rfl,wG,l,G⟩;obtain⟨za,zm,zc,rfl⟩:=Xz wG;have q:aB (λb=>b≠sb/\(Value.slice m L n).ownBlock≠O b) C w4:=(Xl p.o).trans (l.mono (λb _ h=>h.2));refine f.o _ _ q λi=>?_;clear f K;refine wK1 8 i ?_;have j:=ah.o.bT ((Xk (s:=λb=>b=sb) p.o (λb _ h=>by rw[h];exact ah.o.lt)).trans (l.mono (λb _ h e=>ax.o (h ▸ e)))) rfl;have ay:=j.frozen 14;have az:Qo w4 (aD sb 14)=O (Z m L n):=by rw[j.cell 14,JD,Zd rfl,Zd EY.o]
     refine wR 9 λK f=>?_;go_simp;refine f.o _ _ (q.trans (Xu _ _ _ (λh=>h.1 rfl))) (λi=>?_);clear f K;refine wD ?_;try simp only[pV]
     try simp only[pV]
     have z:=Zh (afq EY.o j wG HK.o af.o y.o p.o l HV.o G Qc);clear i ay az j wG l G q aI aJ ae;refine gQ ?_;exact⟨k+1,Z za zm zc,X,Qe,z.o.1,z.o.2.1,z.o.2.2.1,z.o.2.2.2⟩
  .have aK:N ts=k:=X
   rw[<-aK,HE.o]at HO;clear aK;go_wp2;go_end0;exact⟨⟨_,rfl⟩,B,HG.o,HO.o,HK.o,HV.o⟩
def JF:=@U7
theorem bZ.eG{w w':U}{ao:LM}{cs:JK aV}{s:Pm}(h:bZ w ao cs)(hk:aB s w w')(hs:0<N cs->∀a,ao=O a->s a.block):bZ w' ao cs:=⟨h.1,λi d=>by
 obtain⟨b,off,e,c0,g,c2,c3,c4⟩:=h.2 i d;have f:s b:=hs X (aD b off) e;have key:∀{o:Nat} {v:Ql},Qo w (aD b o)=O v->Qo w' (aD b o)=O v:=λ{o v} hc=>by grind [World.cell?,aB.block]
 grind⟩
structure CpS(e:TypeId)(w:U)(wh:JK aQ)(k:Nat)(v:Ql)(ls:JK aQ)(x:U):Prop where
 own:x.ownsRow (M (H w)) e 1 v (N ls) (ls.map aQ.val)
 len:N ls=N wh
 cs:∀i,i<N ls->(E ls i lz).cs=(E wh i lz).cs/\bZ x (E ls i lz).ad (E ls i lz).cs
 new:∀i,i<k->i<N ls->∀a,(E ls i lz).ad=O a->M (H w)<=a.block
 yA:∀i,k<=i->i<N ls->E ls i lz=E wh i lz
 off:∀i,i<N ls->0<(E ls i lz).cs.length->∀a,(E ls i lz).ad=O a->v.ownBlock≠O a.block
 aj:Bw w x
theorem CpS.start{ao:LM}(h:fD w ao wh)(ho:x.ownsRow (M (H w)) e 1 v (N wh) (wh.map aQ.val))(hb:Bw w x):CpS e w wh 0 v wh x:=
 ⟨ho,rfl,λi d=>⟨rfl,(h.2.2 i d).aj hb⟩,λi d=>absurd d (Jw _),λi _ _=>rfl,λi d g a j k=>by
  obtain⟨b,off,f,c0,_⟩:=(h.2.2 i d).2 0 g;rw[j]at f;injection f with f;have l:b<M (H w):=kX c0;have m:=(Xy ho k).1;grind,hb⟩
def CpS.step(h:CpS e w wh k v ls x)(hb:Bw x y):CpS e w wh k v ls y:=
 ⟨Ja h.own hb,h.len,λi a=>⟨(h.cs i a).1,(h.cs i a).2.aj hb⟩,h.new,h.yA,h.off,h.aj.trans (hb.mono h.aj.size)⟩
theorem CV(ls:JK aQ)(k i:Nat)(u:aQ)(hk:k<N ls):E (ls.set k u) i lz=if i=k then u else E ls i lz:=by grind
theorem CpS.next(h:CpS e w wh k v ls x)(hk:k<N ls)(hb:Bw x y){ad:LM}(hc:bZ y ad (E wh k lz).cs)(hn:∀a,ad=O a->M (H x)<=a.block) :
  ∃g p,v=Z (O (aD g 0)) (N ls) p/\CpS e w wh (k+1) v (ls.set k ⟨ad,cap,(E wh k lz).cs⟩) (Qn y (aD g k) (Z ad (E wh k lz).cs.length cap)):=by
 have q:=h.step hb;rcases h.own.2 with⟨_,h1⟩|⟨g,p,iw,hv,hbg,hh,hcp,hm,hs,ht⟩
 .omega
 refine⟨g,p,hv,?_⟩;have m:v.ownBlock=O g:=by rw[hv];rfl
 have u:=(Xy h.own m).2;have n:aB (λb=>b≠g) y (Qn y (aD g k) (Z ad (E wh k lz).cs.length cap)):=Xu _ _ _ (λh=>h rfl);have f:N (ls.set k ⟨ad,cap,(E wh k lz).cs⟩)=N ls:=JB ..;refine⟨?_,f.trans h.len,λi d=>?_,λi d l=>?_,λi d l=>?_,λi d=>?_,h.aj.trans ((hb.mono h.aj.size).trans (n.aj (ZU h.aj.size hb.size) λb hb=>X))⟩
 .have r:=lu m [Z ad (E wh k lz).cs.length cap] k q.own Qi;have j:(ls.map aQ.val).take k++[Z ad (E wh k lz).cs.length cap]++(ls.map aQ.val).drop (k+[Value.slice ad (E wh k lz).cs.length cap].length)=(ls.set k ⟨ad,cap,(E wh k lz).cs⟩).map aQ.val:=by rw[List.map_set,List.set_eq_take_append_cons_drop,Zd Qf];simp[aQ.val]
  rw[j]at r;rw[f];exact r
 .rw[f]at d;rw[CV ls k i _ hk];split
  .rename_i j
   subst j;refine⟨rfl,bZ.eG hc n λ_ a t=>?_⟩;grind
  .refine⟨(h.cs i d).1,bZ.eG (q.cs i d).2 n λz a t j=>h.off i d z a t (by rw[m,j])⟩
 .rw[f]at l;rw[CV ls k i _ hk];split
  .grind
  .exact h.new i X l
 .rw[f]at l;rw[CV ls k i _ hk,Zk X]
  grind [CpS.yA]
 .rw[f]at d;rw[CV ls k i _ hk];split
  .grind
  grind [CpS.off]
