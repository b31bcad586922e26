import Derived.Test.YtibkmjbegbjgcaaGreatDoorS04
import Derived.Test.YtibkmjbegbjgcaaGreatDoorS05
import Derived.Test.YtibkmjbegbjgcaaGreatDoorS07
set_option linter.all false
set_option maxRecDepth 100000
set_option maxHeartbeats 0
namespace Go.Proofs.Zz
open Go.RowKit Go.Shelf Go.Proofs.Tryz
open List renaming length->N,getD->E
open Go.Value renaming slice->Z,int->I,pointer->Y,bool->Qr,agg->Qu
open Go.Proofs.Tryz renaming prog->V
open Option renaming some->O,none->Qs
open Go.IntKind renaming i64->J,u64->Qq
open Bool renaming false->F,true->T
open Go renaming World->U,Value->Qm
open Go.World renaming heap->H,setCell->Qo,cell?->Qp
open _root_.Array renaming size->M
open Go.RowKit renaming Hid->Qn
open Go.Obj renaming cells->Qt
open Go.Ending renaming returned->Qv
variable {ts:Qy af} {q:ae} {B S a b base c cap gb i j k m n s sz:Nat} {l r:bW} {t:aP} {key:Int} {o:Qx} {g:Qy aj} {f:ay} {α:Type} {W W0 w w':U} {ao:PN} {xs:Qy Qm} {Fq:Qz} {Tq e:TypeId} {v:Qm} {A:Nat->Nat} {os:Qy ah} {ns:Qy ai} {P:Program}
def qH(Ez:El ah (Qx))(P:Program)(v:Qm)(rows:Qy (Qx))(w:U):Prop:=
 ∃g lb,v=.func (.func g) #[] lb/\(∀args w,(callFunc g args).run P w=.ok (.enter g args) w)/\Seq Ez P g lb rows w
def qH.later{Ez:El ah (Qx)}{P:Program}{v:Qm}{rows:Qy (Qx)}{w w':U}(h:qH Ez P v rows w)(hb:Bw w w'):qH Ez P v rows w':=by obtain⟨g,lb,a,b,d⟩:=h;exact⟨g,lb,a,b,Seq.later Ez d hb⟩
def RX(t:dB)(w:U)(h:gJ w t.ad t.rs) :
  Calls V 91 #[t.val] w λe w'=>∃v,e=Qv v/\qH bH V v (t.rs.map (·.xs)) w'/\Bw w w':=by
 obtain⟨b,cap,a⟩:=t;unfold dB.val;simp only at*;have d:=cZ w (Qt #[Z b (N a) cap] 51);have f:qH bH V (.func (.func 131) #[] #[Y (O (aD (M (H w)) 0))]) (a.map (·.xs)) (w.alloc (Qt #[Z b (N a) cap] 51)):=
  ⟨_,_,rfl,enters_of func131 Qd rfl,Vv (M (H w)) b cap a _ Qa Qa (h.below d)⟩
 have g:Qn _:=f;have i:=Zh d;go_enter func91,ntmps91;go_wp2;go_ret;exact⟨_,rfl,g.o,i.o⟩
def I5(vi:Qm)(gk:Nat)(lbk:Array Qm)(rows:Qy (Qx))(p:Qx->Bool)(w:U)(hi:qH bH V vi rows w)(egk:∀args w,(callFunc gk args).run V w=.ok (.enter gk args) w)
  (hkeep:∀W x,Bw w W->ah.At x W->x.xs∈rows->Calls V gk (#[x.val]++lbk) W λe W'=>e=Qv (Qr (p x.xs))/\Bw W W') :
  Calls V 53 #[vi,.func (.func gk) #[] lbk] w λe w'=>∃v,e=Qv v/\qH bH V v (rows.filter p) w'/\Bw w w':=by
 obtain⟨d,f,rfl,i,j⟩:=hi;have a:=cZ w (Qt #[.func (.func d) #[] f] 87);have g:=cZ (w.alloc (Qt #[.func (.func d) #[] f] 87)) (Qt #[.func (.func gk) #[] lbk] 129);have b:=a.trans (g.mono a.size);have k:qH bH V (.func (.func 90) #[] #[Y (O (aD (M (H w)) 0)),Y (O (aD (M (H w)+1) 0))]) (rows.filter p) ((w.alloc (Qt #[.func (.func d) #[] f] 87)).alloc (Qt #[.func (.func gk) #[] lbk] 129)):=
  ⟨_,_,rfl,enters_of func90 Qd rfl,Mk (M (H w)) (M (H w)+1) d gk f lbk rows p _ Qj Qa Qa Qa (Seq.later _ j b) i egk (λW x n q r=>hkeep W x (b.trans (n.mono b.size)) q r)⟩
 have l:Qn _:=k;have m:=Zh b;go_enter func53,ntmps53;go_wp2;go_ret;exact⟨_,rfl,l.o,m.o⟩
structure Chk(ts:Qy af)(q:ae):Prop where
 cat:fD ts=T
 src:bP q.src.xs (N ts)=T
 five:N q.src.xs<=5
 eight:N q.wh<=8
 aL:DD ts q
 some:∀i,i<N q.wh->0<(E q.wh i lz).cs.length
 three:∀i,i<N q.wh->(E q.wh i lz).cs.length<=3
theorem Chk.ok(h:Chk ts q):Ok ts q:=⟨h.cat,h.src,Qk h.five,Qk h.eight,h.aL,h.some⟩
theorem yw(h:q.check ts=0):Chk ts q/\0<N q.src.xs/\(q.group=F->bP q.ord.xs (N q.aU.xs)=T)/\N q.ord.xs<=4/\bP q.aU.xs (aN ts q.src.xs)=true:=by
 unfold ae.check checkN at h
 cases hc:fD ts with
 |false=>simp_all
 |true =>
  rw[Zg (by rw[hc];simp)]at h
  cases hf:l9 q.src.xs q.mf q.keys.xs q.sums.xs q.aU.xs q.ord.xs with
  |true=>simp_all
  |false =>
   rw[Zg (by rw[hf];simp)]at h;by_cases v:bP q.src.xs (N ts)=T/\0<N q.src.xs/\eH q.mf (aN ts q.src.xs)=T/\tJ (aN ts q.src.xs) q.group q.keys.xs q.sums.xs q.aU.xs q.ord.xs=T
   .obtain⟨n,p,f,g⟩:=v;unfold l9 at hf;rw[Bool.or_eq_false_iff,decide_eq_false_iff_not]at hf;obtain⟨y,z⟩:=hf;have m:N q.mf=N q.wh:=by unfold ae.mf;simp
    have b:∀i,i<N q.wh->(E q.wh i lz).cs∈q.mf:=λi a=>by unfold ae.mf;grind
    unfold eH at f;rw[Q7]at f;have d:∀i,i<N q.wh->0<(E q.wh i lz).cs.length/\∀c∈(E q.wh i lz).cs,ek c (aN ts q.src.xs)=true:=λi a=>by have:=f _ (b i a);unfold gH at this;simp_all
    unfold tJ at g;simp only[Q6]at g;obtain⟨⟨⟨⟨⟨⟨⟨r,_⟩,_⟩,l⟩,_⟩,_⟩,_⟩,_⟩:=g;refine⟨⟨hc,n,X,X,?_,λi a=>(d i a).1,λi a=>?_⟩,p,λu=>?_,X,r⟩
    .intro i a c k;unfold bX at k;rw[X5]at k;obtain⟨x,t,j⟩:=k;have e:=(d i a).2 x t;unfold ek at e;simp only[Q6,Zf]at e;obtain⟨⟨⟨⟨A,B⟩,C⟩,D⟩,G⟩:=e;unfold aK at j
     grind
    .simp_all
    .rw[u]at l;exact l
   simp_all
def Tryz.II:(V.info? 102).map (λi=>(i.zero,i.size,i.bytes))=O (O (Qu #[I J 0,I Qq 0,I Qq 0,Z Qs 0 0,I Qq 0,I Qq 0]),6,64):=Qd
theorem yg(W:U)(base:Nat)(v:Qm)(ps:Qy aC)(hown:W.ownsRow base 102 6 v (N ps) (ps.flatMap aC.list))(hl:N ps<=1000)(hb:base<=M (H W))(p:aC)(ty:TypeId) :
  ∃d w',(Builtin.append_ #[98,98] ty #[v,Z (O (aD (M (H W)) 0)) 1 1]).run V (W.alloc (Qt p.cells 102))=.ok d w'/\
   w'.ownsRow base 102 6 d (N (ps++[p])) ((ps++[p]).flatMap aC.list)/\Kept (λb=>v.ownBlock≠O b) W w'/\(∃a m c,d = Z a m c)/\(d.ownBlock=v.ownBlock∨d.ownBlock=O (M (H W)+1)):=by
 obtain⟨k,l,e,f,g⟩:=Xl Tryz.II;obtain⟨d,w',n,t,q,r,i⟩:=iq (P:=V) W base 98 ty 102 k _ 6 64 underlying98 l e f g rfl Qc v (N ps) _ hown hb p.list rfl (λu j=>by
  unfold aC.list ah.val at j;simp at j;rcases j with rfl|rfl|rfl|rfl|rfl|rfl <;> rfl) hl Qc
 exact⟨d,w',n,Qb,q,r,i⟩
structure QF(ts:Qy af)(q:ae):Prop where
 ok:Ok ts q
 one:1<=N q.src.xs
 five:N q.src.xs<=5
 eight:N q.wh<=8
 keys:∀c∈q.keys.xs,0<=c/\c<aN ts q.src.xs
 apart:di q.keys.xs=T
 want:q.group=F->∀c∈gW q,0<=c/\c<aN ts q.src.xs
theorem xK(conc:Qy Nat)(s:Nat):∀k i,(eO conc s k).testBit i=(decide (i<k)&&aT s (E conc i 0))
 |0,i=>by simp[eO]
 |k+1,i=>by have ih:=xK conc s k i;grind [eO.eq_def]
theorem nS(conc:Qy Nat)(s i:Nat):(bu conc s).testBit i=(decide (i<N conc)&&aT s (E conc i 0)):=xK conc s (N conc) i
theorem lS(ha:a<18446744073709551616)(hb:b<18446744073709551616):aT a b=T↔∀i,b.testBit i=T->a.testBit i=true:=by grind [aT,Md]
def aag(hi:i<N q.wh):E (q.wh.map λc=>bD (dn ts q.src.xs c.cs)) i 0=bD (dn ts q.src.xs (E q.wh i lz).cs):=by simp_all
def KM(h:QF ts q)(hi:i<N q.wh):bD (dn ts q.src.xs (E q.wh i lz).cs)<2 ^ (N q.src.xs):=pq (nV h.ok.cat h.ok.src (h.ok.aL i hi))
def nT(h:n<=5)(ha:a<2 ^ n):a<18446744073709551616:=Zy ha (ZN (ZA X h) Qc)
def Cg(h:n<=8)(ha:a<2 ^ n):a<2 ^ 64:=Zy ha (ZA X X)
theorem zu(hj:j<N (aR s)):E (dw s) j 0=(((aR s)[j]:Nat):Int):=by grind [dw]
theorem zw(h:i∈aR s):s.testBit i=true:=(List.mem_filter.1 h).2
def Gn(s:Nat):(aR s).Pairwise (· < ·):=List.Pairwise.filter _ List.pairwise_lt_range
theorem aah(h:∀i,c.testBit i=T->i<N q.wh/\aT S (bD (dn ts q.src.xs (E q.wh i lz).cs))=T):iE ts q (dw c) S=true:=by
 unfold iE;rw[Q7];intro j k;have e:N (dw c)=N (aR c):=by grind [dw]
 have a:j<N (aR c):=Qf;rw[zu a];have b:=XO a;obtain⟨g,d⟩:=h _ (zw b);simp only[Q6,Zf,Xv];refine⟨⟨?_,X⟩,d⟩;split
 .omega
 .have f:=List.pairwise_iff_getElem.1 (Gn c) (j-1) j X a X
  grind [zu]
theorem sP(h:s<2 ^ 64):bD (dw s)=s:=by
 apply Nat.eq_of_testBit_eq;intro i;rw[zY (λx d=>by grind [dw])];by_cases a:s.testBit i=T
 .rw[a,Zf];have b:i<64:=by
   by_cases b:i<64
   .exact b
   .rw[Zx (Zy h (ZA X X))]at a
    cases a
  exact ZL.2 ⟨i,List.mem_filter.2 ⟨by simp[b],a⟩,rfl⟩
 grind [dw,zw]
theorem aai(h:s<2 ^ 64)(h0:s≠0):0<N (dw s):=by grind [bD,sP]
theorem Oz{conc:Qy Nat}(hc:N conc<=8)(ha:a<2 ^ 5)(hb:b<2 ^ 5)(hx:∀i,i<N conc->E conc i 0<2 ^ 5):bL conc a b|||bu conc a|||bu conc b=bu conc (a|||b):=by
 apply Nat.eq_of_testBit_eq;intro i;have hlt:∀s,bu conc s<2 ^ (N conc):=λs=>gD conc s (N conc);have h64:∀s,bu conc s<18446744073709551616:=λs=>Zy (hlt s) (ZN (ZA X hc) Qc);have hor:bu conc a|||bu conc b<18446744073709551616:=XP (n:=64) (h64 a) (h64 b);by_cases hi:i<N conc
 .have hmono:∀s,s<2 ^ 5->(∀j,s.testBit j=T->(a|||b).testBit j=T)->(bu conc s).testBit i=T->(bu conc (a|||b)).testBit i=true:=by intro s hs hsub h1;rw[nS,Q6]at h1 ⊢;have hb1:s<18446744073709551616:=Nat.lt_trans hs Qc;have hb2:a|||b<18446744073709551616:=Nat.lt_trans (XP ha hb) Qc;grind [lS]
  grind [bL,zZ]
 grind [nS,bL]
def Py(s:Nat):Nat:=N (aR s)
def ahu:∀a,a<32->∀b,b<32->a &&& b=0->Py (a|||b)=Py a+Py b:=by unfold Py aR;decide +kernel
def ahv:∀s,s<32->Py s<=5:=by unfold Py aR;decide +kernel
def acX:∀i,i<5->Py (2 ^ i)=1:=by unfold Py aR;decide +kernel
def dU(ts:Qy af)(q:ae):Qy Nat:=q.wh.map λc=>bD (dn ts q.src.xs c.cs)
def fZ(ts:Qy af)(q:ae):N (dU ts q)=N q.wh:=by unfold dU;simp
structure TS(ts:Qy af)(q:ae)(t:aP):Prop where
 tf:TF ts q t
 src:t.d.sources<2 ^ (N q.src.xs)
 cls:t.d.clauses=bu (dU ts q) t.d.sources
 out:eT t.d.kind=F
def Gp(ts:Qy af)(q:ae)(n:ai)(a:aP)(h1:n.kind≠1):(au ts q n [a]).d.kind=n.kind/\(au ts q n [a]).d.sources=a.d.sources/\(au ts q n [a]).d.clauses=bD n.cl.xs|||a.d.clauses:=by
 refine⟨rfl,?_,?_⟩
 .show (if n.kind=1 then 2 ^ n.source.toNat else 0)|||a.d.sources|||0=_
  simp_all
 .show bD n.cl.xs|||a.d.clauses|||0=_
  simp_all
def Pz(ts:Qy af)(q:ae)(n:ai)(a b:aP)(h1:n.kind≠1):(au ts q n [a,b]).d.kind=n.kind/\(au ts q n [a,b]).d.sources=a.d.sources|||b.d.sources/\(au ts q n [a,b]).d.clauses=bD n.cl.xs|||a.d.clauses|||b.d.clauses:=by refine⟨rfl,?_,rfl⟩;show (if n.kind=1 then 2 ^ n.source.toNat else 0)|||a.d.sources|||b.d.sources=_;simp_all
def oQ{k:Int}(hk:k≠10)(hl:eT l.kind=F)(hr:eT r.kind=F):lU k l r=true:=by unfold lU;simp_all
def yM:eT pz.kind=false:=Qc
def yN(hi:i<N q.wh):E (dU ts q) i 0=bD (dn ts q.src.xs (E q.wh i lz).cs):=aag hi
def qj(ts:Qy af)(q:ae)(h:∀i,c.testBit i=T->(bu (dU ts q) S).testBit i=T):iE ts q (dw c) S=true:=by refine aah λi b=>?_;have a:=h i b;rw[nS,Q6,Zf,fZ]at a;rw[<-yN a.1];exact a
def Ur(ts:Qy af)(q:ae)(h8:N q.wh<=8)(s:Nat):bu (dU ts q) s<2 ^ 64:=by have:=gD (dU ts q) s (N (dU ts q));rw[fZ]at this;exact Cg h8 (by unfold bu;rw[fZ];exact this)
def Gq{s:Int}(h0:0<=s)(h1:s<N q.src.xs):TF ts q (au ts q (ig s) []):=by refine TF.al5 ⟨by show (1:Int)<=1;decide,by show (1:Int)<=10;decide,.inl rfl,.inr (.inr rfl),.inr (.inr rfl),.inr rfl⟩ Qi ?_;rw[oQ (by show (1:Int)≠10;decide) yM yM,Zj];show (if (1:Int)=1 then decide (0<=s)&&decide (s<N q.src.xs) else _)=T;simp_all
def PE(h:TF ts q t)(hl:N t.ns<=900)(ho:eT t.d.kind=F)(hc:c<2 ^ 64)(hn:c≠0)(hr:iE ts q (dw c) t.d.sources=T):TF ts q (au ts q (Ac (dw c)) [t]):=by refine TF.Px ⟨by show (1:Int)<=2;decide,by show (2:Int)<=10;decide,.inr rfl,.inr (.inr rfl),.inl rfl,.inr rfl⟩ Qi h hl ?_;rw[oQ (by show (2:Int)≠10;decide) ho yM,Zj];show (if (2:Int)=1 then _ else if (2:Int)=2 then decide (0<N (dw c))&&iE ts q (dw c) t.d.sources else _)=T;rw[Zg Qc,Zb rfl,hr,Zi (aai hc hn)];rfl
theorem OA(hq:QF ts q){s:Int}(h0:0<=s)(h1:s<N q.src.xs):TS ts q (dN ts q (dU ts q) s)/\(dN ts q (dU ts q) s).d.sources=2 ^ s.toNat/\(dN ts q (dU ts q) s).ns.length<=2:=by
 have b:=Gq (ts:=ts) h0 h1;have a:=uD ts q s;have m:(au ts q (ig s) []).d.kind=1:=rfl;have n:(au ts q (ig s) []).ns.length=1:=rfl;have f:(au ts q (ig s) []).d.clauses=0:=by show bD []|||0|||0=0;rfl
 have g:2 ^ s.toNat<2 ^ (N q.src.xs):=XN X X;unfold dN bJ;simp only[a];split
 .rename_i hz
  exact⟨⟨b,X,Qf,Qi⟩,a,X⟩
 .rename_i hz
  have j:=Ur ts q hq.eight (2 ^ s.toNat);have k:=PE b X Qi j hz (qj ts q (λi r=>Qf));obtain⟨p,e,l⟩:=Gp ts q (Ac (dw (bu (dU ts q) (2 ^ s.toNat)))) (au ts q (ig s) []) (by show (2:Int)≠1;decide);refine⟨⟨k,X,?_,Qi⟩,by rw[e,a],?_⟩
  .rw[e,l,a];rw[f]
   show bD (dw (bu (dU ts q) (2 ^ s.toNat)))|||0=_;grind [sP]
  .rw[Jb ts q _ Qa]
   show (au ts q (ig s) []).ns.length+0+1<=2;omega
theorem acY(hq:QF ts q){a b:aP}(ha:TS ts q a)(hb:TS ts q b)(hap:a.d.sources &&& b.d.sources=0)(hl:N a.ns+N b.ns<=900){n:ai}{k:Int}(hn:n=dF k (dw (bL (dU ts q) a.d.sources b.d.sources)) key)(hk:(k=3/\key=0)∨(k=4/\(iF ts q n a.d.sources b.d.sources).2.2=T)∨(k=5/\(iF ts q n a.d.sources b.d.sources).2.2=T/\aO a.d.order [(iF ts q n a.d.sources b.d.sources).1]=T/\aO b.d.order [(iF ts q n a.d.sources b.d.sources).2.1]=T)) :
  TS ts q (au ts q n [a,b])/\(au ts q n [a,b]).d.sources=a.d.sources|||b.d.sources:=by
 have u:=hq.five;have v:=XP ha.src hb.src;have j:∀x,x<2 ^ (N q.src.xs)->x<2 ^ 5:=λx C=>Zy C (ZA X u);have l:bL (dU ts q) a.d.sources b.d.sources<2 ^ 64:=by have:=pQ (dU ts q) a.d.sources b.d.sources;rw[fZ]at this;exact Cg hq.eight this
 have e:n.cl.xs=dw (bL (dU ts q) a.d.sources b.d.sources):=by rw[hn];rfl
 have f:n.kind=k:=by rw[hn];rfl
 have y:n.key=key:=by rw[hn];rfl
 have m:n.source=0:=by rw[hn];rfl
 have p:N n.co.xs=0:=by rw[hn];rfl
 have D:3<=k/\k<=5:=X;have z:kC ts q n a.d.sources b.d.sources=true:=by unfold kC;rw[Zi hap,Zj,e];refine qj ts q λi g=>?_;unfold bL at g;simp_all
 have r:=Oz (conc:=dU ts q) (by rw[fZ];exact hq.eight) (j _ ha.src) (j _ hb.src) (λi g=>by
  rw[fZ]at g;rw[yN g];exact j _ (KM hq g))
 obtain⟨A,t,B⟩:=Pz ts q n a b X;refine⟨⟨TF.aeb ⟨X,X,.inr m,?_,.inr (.inl X),.inr p⟩ ?_ ha.tf hb.tf hl ?_,X,?_,?_⟩,t⟩
 .omega
 .rw[f]
  grind [arity]
 .rw[oQ X ha.out hb.out,Zj];unfold iK
  grind
 .rw[t,B,e,sP l,ha.cls,hb.cls];exact r
 .rw[A,f]
  grind [eT]
def Ew{a:aP}(ha:TS ts q a)(hl:N a.ns<=900)(ho:lF ts q.src.xs o a.d.sources=T):TS ts q (bK ts q a o):=by
 obtain⟨f,b,e⟩:=Gp ts q (DF o) a (by show (6:Int)≠1;decide);refine⟨TF.Px ⟨by show (1:Int)<=6;decide,by show (6:Int)<=10;decide,.inr rfl,.inr (.inr rfl),.inr (.inr rfl),.inl rfl⟩ Qi ha.tf hl ?_,by show (au ts q (DF o) [a]).d.sources<_;rw[b];exact ha.src,?_,?_⟩
 .rw[oQ (by show (6:Int)≠10;decide) ha.out yM,Zj]
  show (if (6:Int)=1 then _ else if (6:Int)=2 then _ else if (6:Int)=3 then _ else if (6:Int)=4 then _ else if (6:Int)=5 then _ else if (6:Int)=6 then lF ts q.src.xs o a.d.sources else _)=T;simp_all
 .show (au ts q (DF o) [a]).d.clauses=bu _ (au ts q (DF o) [a]).d.sources
  rw[b,e];show 0|||a.d.clauses=_;rw[Nat.zero_or];exact ha.cls
 rfl
structure PF(ts:Qy af)(q:ae)(s:Nat)(t:aP):Prop where
 ts':TS ts q t
 src:t.d.sources=s
 len:N t.ns+2<=5*Py s
structure GF(ts:Qy af)(q:ae)(s:Nat)(g:Qy aj):Prop where
 all:∀p∈g,∀x,p.2=O x->PF ts q s x.2
 head:∀x,bI g=O x->N x.ns+3<=5*Py s
 al7:∀o∈(g.map Prod.fst).drop 1,lF ts q.src.xs o s=T
def s32(hq:QF ts q)(h:s<2 ^ (N q.src.xs)):s<32:=Zy h (ZA X hq.five)
def PF.small(hq:QF ts q)(h:PF ts q s t):N t.ns<=23:=by have a:=ahv s (s32 hq (h.src ▸ h.ts'.src));have:=h.len;omega
theorem GF.piece(h:GF ts q s g){x:Nat × aP}(hx:x∈dA g):PF ts q s x.2:=by
 rcases ll g [] x hx with a|⟨p,b,e⟩
 .cases a
 grind [GF.all]
theorem zy(jg:Int):∀(l:Qy (Nat × aP)) (m:Option aP) (t:aP),(∀u,m=O u->aO u.d.order [jg]=T)->l.foldl (nK jg) m=O t->aO t.d.order [jg]=T
 |[],_,t,hm,h=>hm t h
 |x::l,m,t,hm,h=>by refine zy jg l (nK jg m x) t (λu hu=>?_) h;unfold nK at hu;grind
def PG(h:bI g=O t):∃p∈g,∃n,p.2=O (n,t):=by
 unfold bI at h;split at h
 .rename_i o x r
  injection h with h;exact⟨_,XL,x.1,by rw[<-h]⟩
 .cases h
def Gs(hq:QF ts q)(hab:a &&& b=0){l r:aP}(hl:PF ts q a l)(hr:PF ts q b r){k:Int}(hk:(k=3/\key=0)∨(k=4/\(iF ts q (dF k (dw (bL (dU ts q) a b)) key) a b).2.2=T)∨(k=5/\(iF ts q (dF k (dw (bL (dU ts q) a b)) key) a b).2.2=T/\aO l.d.order [(iF ts q (dF k (dw (bL (dU ts q) a b)) key) a b).1]=T/\aO r.d.order [(iF ts q (dF k (dw (bL (dU ts q) a b)) key) a b).2.1]=T)) :
  PF ts q (a|||b) (au ts q (dF k (dw (bL (dU ts q) a b)) key) [l,r])/\(au ts q (dF k (dw (bL (dU ts q) a b)) key) [l,r]).ns.length+3<=5*Py (a|||b):=by
 have i:=hl.small hq;have j:=hr.small hq;obtain⟨f,g⟩:=acY hq hl.ts' hr.ts' (by rw[hl.src,hr.src];exact hab) X (n:=dF k (dw (bL (dU ts q) a b)) key) (k:=k) (key:=key) (by rw[hl.src,hr.src]) (by rw[hl.src,hr.src];exact hk);have e:(au ts q (dF k (dw (bL (dU ts q) a b)) key) [l,r]).ns.length+3<=5*Py (a|||b):=by rw[Jb ts q _ Qa,ahu a (s32 hq (hl.src ▸ hl.ts'.src)) b (s32 hq (hr.src ▸ hr.ts'.src)) hab];show N l.ns+N r.ns+1+3<=_;have:=hl.len;have:=hr.len;omega
 exact⟨⟨f,by rw[g,hl.src,hr.src],X⟩,e⟩
def PIn(ts:Qy af)(q:ae)(s:Nat)(t:aP):Prop:=PF ts q s t/\N t.ns+3<=5*Py s
theorem Us(hq:QF ts q)(hab:a &&& b=0){l:aP}(hl:PF ts q a l)(hg:GF ts q b g)(hs:(bI g).isSome=T):∀t∈dJ ts q (dU ts q) l g,PIn ts q (a|||b) t:=by
 obtain⟨r,hr⟩:=Zp.1 hs;obtain⟨p,hp,n,ep⟩:=PG hr;have hR:PF ts q b r:=hg.all p hp _ ep;have key:∀(ks:Qx) (acc:Qy aP),(∀t∈acc,PIn ts q (a|||b) t)->∀t∈ks.foldl (fP ts q l r g (dw (bL (dU ts q) a b))) acc,PIn ts q (a|||b) t:=by
  intro ks
  induction ks with
  |nil=>simp_all
  |cons k ks ih =>
   intro acc h;refine ih _ ?_;unfold fP;simp only[hl.src,hR.src];split
   .rename_i hk
    have h4:=Gs hq hab hl hR (k:=4) (key:=k) (.inr (.inl ⟨rfl,hk⟩));have hA:∀t∈acc++[au ts q (dF 4 (dw (bL (dU ts q) a b)) k) [l,r]],PIn ts q (a|||b) t:=λt ht=>by grind [PIn]
    split
    .exact hA
    .rename_i m hm
     split
     .rename_i hst
      intro t ht;rcases Xk.1 ht with ht|ht
      .exact hA t ht
      .rw[Xj]at ht;rw[ht];have hM:PF ts q b m:=by
        rcases zS _ _ Qs m hm with h0|⟨n,hn⟩
        .cases h0
        .exact hg.piece hn
       exact Gs hq hab hl hM (k:=5) (key:=k) (.inr (.inr ⟨rfl,hk,hst,zy _ _ Qs m (λu hu=>by cases hu) hm⟩))
     .exact hA
   .exact h
 unfold dJ;rw[hr];simp only[Option.getD_some,hl.src,hR.src];refine key _ _ λt ht=>?_;rw[Xj]at ht;rw[ht];exact Gs hq hab hl hR (k:=3) (key:=0) (.inl ⟨rfl,rfl⟩)
def aaj(hq:QF ts q)(hab:a &&& b=0){f:Qy aj}(hf:GF ts q a f)(hg:GF ts q b g)(hs:(bI g).isSome=T):∀t∈jr ts q (dU ts q) f g,PIn ts q (a|||b) t:=by intro t ht;unfold jr at ht;obtain⟨x,hx,ht⟩:=X5.1 ht;exact Us hq hab (hf.piece hx) hg hs t ht
def OC{x:aP}(h:bI (iW g t)=O x):x=t∨bI g=O x:=by
 cases g with
 |nil=>cases h
 |cons p r =>
  have e:bI (iW (p::r) t)=bI (fJ (cO (p::r)) t p::r.map (fJ (cO (p::r)) t)):=rfl;rw[e]at h
  cases hp:(fJ (cO (p::r)) t p).2 with
  |none =>
   rw[show fJ (cO (p::r)) t p=((fJ (cO (p::r)) t p).1,Qs) from Prod.ext rfl hp]at h;cases h
  |some y =>
   rw[show fJ (cO (p::r)) t p=((fJ (cO (p::r)) t p).1,O y) from Prod.ext rfl hp]at h;have a:O y.2=O x:=h;injection a with a;rcases rA hp with rfl|d
   .simp_all
   .right;obtain⟨o,z⟩:=p;have b:z=O y:=d;rw[b]
    show O y.2=O x;rw[a]
theorem GF.offer(h:GF ts q s g)(ht:PF ts q s t)(hh:∀x,bI (iW g t)=O x->N x.ns+3<=5*Py s):GF ts q s (iW g t):=by refine⟨λp b x e=>?_,hh,by rw[uJ];exact h.al7⟩;obtain⟨d,a,rfl⟩:=ZL.1 b;grind [fJ,GF.all]
def Ex{ts:Qy af}{q:ae}{s:Nat}:∀{l:Qy aP} {x:Bool × Qy aj},GF ts q s x.2->(∀t∈l,PIn ts q s t)->GF ts q s (l.foldl jH x).2
 |[],_,h,_=>h
 |t::l,x,h,hl=>by
  have ht:=hl t XL;refine Ex (l:=l) (x:=jH x t) (h.offer ht.1 λy hy=>?_) (λu hu=>hl u (XJ _ hu));rcases OC hy with rfl|h0
  .exact ht.2
  .exact h.head y h0
theorem Ut(hq:QF ts q)(hG:sF q s g)(h:GF ts q s g)(hs:(bI g).isSome=T)(ho:lF ts q.src.xs o s=T):GF ts q s (dW ts q g o):=by
 obtain⟨t,a⟩:=Zp.1 hs;obtain⟨p,k,n,l⟩:=PG a;have f:PF ts q s t:=h.all p k _ l;have v:=vY ts q t o (hG.first a).1.cost;have i:=Ew f.ts' (Qk (f.small hq)) (o:=o) (by rw[f.src];exact ho);have j:=h.head t a;unfold dW;rw[a];refine h.offer ⟨i,by show (bK ts q t o).d.sources=s;rw[lY];exact f.src,?_⟩ λx u=>?_
 .show (bK ts q t o).ns.length+2<=_
  rw[nL];omega
 .obtain⟨m,r,rfl,_⟩:=hG.head
  cases m with
  |none=>cases a
  |some y =>
   have z:y.2=t:=by have:O y.2=O t:=a;simp_all
   have b:fJ (cO (([],O y)::r)) (bK ts q t o) ([],O y)=([],O y):=by unfold fJ dQ;grind
   have e:bI (fJ (cO (([],O y)::r)) (bK ts q t o) ([],O y)::r.map (fJ (cO (([],O y)::r)) (bK ts q t o)))=O x:=u;rw[b]at e;exact h.head x e
def Ch{ts:Qy af}{q:ae}(hq:QF ts q){s:Nat}:∀{os:Qy (Qx)} {g:Qy aj},sF q s g->GF ts q s g->(bI g).isSome=T->(∀o∈os,lF ts q.src.xs o s=T)->GF ts q s (os.foldl (dW ts q) g)
 |[],_,_,h,_,_=>h
 |o::os,g,hG,h,hs,ho=>by have h1:=hG.FE (ts:=ts) hs o;exact Ch hq (os:=os) h1.1 (Ut hq hG h hs (ho o XL)) h1.2 (λo' h'=>ho o' (XJ _ h'))
def OD(hq:QF ts q){l:Qy aP}(hG:sF q s g)(hT:∀t∈l,Ll q s t)(h:GF ts q s g)(hl:∀t∈l,PIn ts q s t):GF ts q s (bz ts q g l).2:=by
 have a:=sG (l:=l) (x:=(F,g)) hG hT (λe=>by cases e);have b:GF ts q s (iX g l).2:=Ex (l:=l) (x:=(F,g)) h hl;unfold bz;split
 .rename_i hc
  exact Ch hq a.1 b (a.2 hc) (λo d=>h.al7 o d)
 .exact b
theorem DZ(h:s<2 ^ n)(hi:i∈aR s):i<n:=by unfold aR at hi;grind [Nat.testBit_lt_two_pow,Nat.lt_of_lt_of_le,Nat.pow_le_pow_right]
theorem yU{l:Qx}(h:iE ts q l s=T):iC (N q.wh) l:=λx b=>by
 unfold iE at h;rw[Q7]at h;have d:∀i,i<N l->(if i=0 then -1 else E l (i-1) 0)<E l i 0/\E l i 0<N q.wh:=λi a=>by simp_all
 have f:∀i,i<N l->0<=E l i 0:=by
  intro i
  induction i with
  |zero=>grind
  |succ i ih =>
   grind
 obtain⟨i,a,e⟩:=Zc b;grind
def qX(g:Nat->Nat):∀(l:Qy Nat) (m:Nat),l.foldl (λx c=>x / g c) m<=m
 |[],m=>Za _
 |a::l,m=>by rw[Zw];exact ZN (qX g l _) (Nat.div_le_self _ _)
theorem VO(ts:Qy af)(q:ae)(s c:Nat):nI ts q s c<=bQ:=by
 unfold nI;have a:=mU ((aR s).map λ(k:Nat)=>qp ts q.src.xs (k:Int)) 1 (by grind [bQ]);split
 .omega
 .have:=qX (λc=>iV ts q.src.xs (E q.wh c lz).cs) (aR c) (((aR s).map λ(k:Nat)=>qp ts q.src.xs (k:Int)).foldl fA 1);omega
theorem VP(k:Int)(s lc ls rc rs:Nat):kr k s lc ls rc rs<=bQ:=by grind [kr,vO]
theorem MF{n:ai}(hs:eu n i=T)(hf:iK ts q n l r=T):iC (N q.wh) n.cl.xs/\(n.kind=1->0<=n.source/\n.source<N q.src.xs):=by
 have b:qQ n=true:=by unfold eu at hs;simp_all
 have d:(n.kind=2∨3<=n.kind/\n.kind<=5)∨n.cl.xs=[]:=by unfold qQ at b;grind
 unfold iK at hf;constructor
 .rcases d with h|h
  .rw[Zg X]at hf;by_cases k2:n.kind=2
   .rw[Zb k2,Q6]at hf;exact yU hf.2
   rw[Zg k2]at hf;have a:kC ts q n l.sources r.sources=true:=by grind
   unfold kC at a;rw[Q6]at a;exact yU a.2
  .rw[h];exact λx e=>by cases e
 grind
section
def uB{pre l:List α}{x:α}(h:pre++[x] <+: l):x∈l:=h.subset Qa
structure CV(w2:U)(t:TypeId)(Xq:Nat)(o1:Qz)(W:U):Prop where
 g:GB W (M (H w2)) t #[I Qq (Xq:Int)]
 below:Bw w2 W
 iff:∀b,o1 b↔b=M (H w2)
def CV.keep{w2:U}{t:TypeId}{Xq:Nat}{o1:Qz}{A B:U}{n:Nat}(h:CV w2 t Xq o1 A)(hn:M (H w2)<=n)(hk:Kept (λb=>o1 b∨b<n) A B):CV w2 t Xq o1 B:=
 ⟨h.g.keep hk (.inl ((h.iff _).2 rfl)),h.below.trans (hk.below h.below.size (λb a=>.inr X)),h.iff⟩
def CV.step{w2:U}{t:TypeId}{Xq Yq:Nat}{o1:Qz}(h:CV w2 t Xq o1 W):CV w2 t Yq o1 (Qo W.drew (aD (M (H w2)) 0) (I Qq (Yq:Int)))/\Kept (λb=>¬o1 b) W (Qo W.drew (aD (M (H w2)) 0) (I Qq (Yq:Int))):=by have d:Kept (λb=>b≠M (H w2)) W (Qo W.drew (aD (M (H w2)) 0) (I Qq (Yq:Int))):=(ZP ((Q9 (M (H W)) W).drew) (λb a _=>a)).trans (Xd _ _ _ (λh=>h rfl));exact⟨⟨(h.g.keep (ZP (s:=λ_=>True) ((Q9 (M (H W)) W).drew) (λb a _=>a)) trivial).set 0 _,h.below.trans (d.below h.below.size (λb a=>Nat.ne_of_lt a)),h.iff⟩,d.mono λb _ a e=>a ((h.iff b).2 e)⟩
attribute [local go_sem] Oper.semAt_some
def IC(f:ay)(ts:Qy af)(q:ae)(p:aC)(ao:PN)(pl cap:Nat)(w:U)(ok:Ok ts q)(hf:f.At ts q w)(hs:p.sources<2 ^ (N q.src.xs))(hc:p.clauses<2 ^ (N q.wh))(hk:eT p.kind=F) :
  Cb 163 #[Qu (f.cells ts q),Qu p.cells,Z ao pl cap] w (I Qq ((nI ts q p.sources p.clauses:Nat):Int)):=by
 have aY:p.sources<18446744073709551616:=Zy hs (ZA (n:=2) X ok.small);have MK:p.clauses<18446744073709551616:=Zy hc (ZA (n:=2) X ok.mf);have bO:Qn (∀x∈aR p.sources,x<N q.src.xs):=λx u=>DZ hs u;have bP:Qn (∀x∈aR p.clauses,x<N q.wh):=λx u=>DZ hc u;obtain⟨cO,bu⟩:=aS (pK p.sources aY) (pK p.clauses MK);have HR:Qn _:=hf.rows;have HP:Qn _:=hf.parts;obtain⟨bz,yV⟩:=aS (Rb ts q) (DJ ts q);have bR:Qn (∀x,x<N q.src.xs->E (yT ts q) x 0<=bQ):=λx u=>by rw[DK ts q u];obtain⟨h0,h1⟩:=vQ ok.src (k:=x) u;have ht:=vL ok.cat (i:=(E q.src.xs x 0).toNat) X;unfold dK at ht;rw[Zf]at ht;unfold qp bQ;rw[Xv];omega
 have aZ:Qn (∀x,x<N q.wh->1<=E (tO ts q) x 0/\E (tO ts q) x 0<=1000000):=λx u=>by rw[xX ts q u];exact VD ok.cat ok.src (ok.aL x u)
 obtain⟨v,bA,bB,m,bD⟩:∃v:Qy Nat->Nat,v []=1/\(∀a x,x<N q.src.xs->v (a++[x])=fA (v a) (E (yT ts q) x 0))/\(∀a,v a<=bQ)/\v (aR p.sources)=((aR p.sources).map λ(k:Nat)=>qp ts q.src.xs (k:Int)).foldl fA 1:=
  ⟨λa=>(a.map λ(k:Nat)=>qp ts q.src.xs (k:Int)).foldl fA 1,rfl,λa x u=>by simp only[Q5,ZM];rw[DK ts q u];rfl,λa=>mU _ 1 (by unfold bQ;omega),rfl⟩
 obtain⟨C,ah⟩:=eX (v (aR p.sources));obtain⟨r,bE,bF,aB,bG⟩:∃r:Qy Nat->Nat,r []=C/\(∀a x,x<N q.wh->r (a++[x])=r a / E (tO ts q) x 0)/\(∀a,r a<=bQ)/\r (aR p.clauses)=(aR p.clauses).foldl (λx c=>x / iV ts q.src.xs (E q.wh c lz).cs) C:=
  ⟨λa=>a.foldl (λx c=>x / iV ts q.src.xs (E q.wh c lz).cs) C,rfl,λa x u=>by simp only[ZM];rw[xX ts q u];rfl,λa=>ZN (qX _ a C) (by rw[<-ah];exact m _),rfl⟩
 obtain⟨R,hR⟩:=eY (nI ts q p.sources p.clauses);have vU:Qn (R=if C=0 then 0 else max (r (aR p.clauses)) 1):=by show R=_;rw[hR];unfold nI;rw[<-bD,ah,bG]
 rw[<-hR];clear hR;obtain⟨df,dh,di,dm,bH,bI,aF⟩:=aeh bA bB m ah bE bF aB;clear bA bB m bD ah bE bF aB bG;have bf:=λx=>vN p.kind x;rw[hk]at bf;obtain⟨v0,v1,v2,v3,v4,v5,v6,v7,v8,v9,aG,aH,aI,bZ,-,-,-,-,-,-,-,-,-,-,bJ,-,aJ⟩:=XY f ts q;rw[bZ];rw[hf.pl]at aJ;rw[Rv];clear hk hs hc aY MK bZ ok hf;generalize yT ts q=RL,tO ts q=PL,aR p.sources=SL,aR p.clauses=CL at*;obtain⟨kind,ps,pc,ord,aK,aM⟩:=p;simp only at*;generalize ord.val=od at*;obtain⟨w1,dN,bK,aN⟩:=bC w #[v0,v1,v2,v3,v4,v5,v6,v7,v8,v9,aG,aH,aI] 82;obtain⟨w2,dO,aO,aP⟩:=bC w1 #[I J kind,I Qq (ps:Int),I Qq (pc:Int),od,I Qq (aK:Int),I Qq (aM:Int)] 102;have ai:=aO;have bg:=az bK ai;have lu:=aN.of (ai.block _ aN.lt);have jB:=lu.at 10;have jC:=lu.at 12;have tT:=aP;obtain⟨Ay,Ar,Au⟩:=tT.k3;rw[bJ]at jB;rw[aJ]at jC;clear bJ aJ;obtain⟨w3,dn,aQ,bL⟩:=bC w2 #[I Qq 1] 37;have Q:Qn (M (H w3)=M (H w2)+1):=by rw[<-dn];show _=_;simp
 obtain⟨L,qN⟩:=aS bg aQ;have Aw:Qn _:=bL;have b1:=cB aQ Ar;obtain⟨dw,dx,dz⟩:=jX jB jC Au;clear bK aO aN aP lu tT bg ai aQ bL jB jC Au Ar;refine(ZU (n:=0)).1 (Xb func163 rfl trivial ?_ rfl);simp only[ntmps163,ZZ,ZK,Z0,Nat.reduceAdd,Nat.reduceSub,Z4,Z5,Z6,Z7,Z8,Z9];gi_wp2;refine⟨trivial,rfl,ZU.2 ((bf _).mono ?_)⟩;rintro e W ⟨rfl,aj⟩;have aj:=aj.symm;subst aj;gi_wp2;refine rY jS (gf:=45) (s:=I Qq (ps:Int)) rfl (enters_of func45 Qd rfl) (cO.o w2) qN.o rfl
  (λa t W=>CV w2 37 (v a) t W) (λb=>b=M (H w2)) ?_ ?_ ⟨by rw[df.o];exact Aw.o,qN.o,λ_=>Iff.rfl⟩
  (λx=>{ tmps:=#[Qu #[v0,v1,v2,v3,v4,v5,v6,v7,v8,v9,aG,aH,aI],Qu #[I J kind,I Qq (ps:Int),I Qq (pc:Int),od,I Qq (aK:Int),I Qq (aM:Int)],Z ao pl cap,Y (O (aD (M (H w)) 0)),Y (O (aD (M (H w1)) 0)),undef,I Qq 0,Y (O (aD (M (H w2)) 0)),I J (x:Int),undef,undef,Y (O (aD (M (H w1)) 0)),I J kind,Qr F,undef,undef,undef,undef,Y (O (aD (M (H w1)) 1)),I Qq (ps:Int),.func (.func 45) #[I Qq (ps:Int)] #[],I J (x:Int),undef,undef,undef,undef,undef,undef,undef,undef,undef,undef,undef,undef,undef,undef,undef,undef,undef,undef,undef,undef,undef,undef,undef],defers:=[] }) ?assign ?body ?done
 .rintro b rfl;exact⟨Za _,Qk Q.o⟩
 .intro a t A B h hk;exact h.keep (Qk Q.o) hk
 case assign=>
  intro l x W K z;have he:jS.enc x=I J (x:Int):=rfl;gi_wp2;exact z
 case body=>
  intro l a x t W j G u bN dE;have d:=bO.o x (uB (by simpa [jS] using G));have ak:=L.o.trans (j.below.mono L.o.size);obtain⟨rb,ro,aT,aU⟩:=dY.get (dY.below ak HR.o) (i:=x) (by rw[bz.o];exact d);have bS:=aU x (by rw[bz.o];exact d);have S:=Zh (dh.o a x d);have bn:=bR.o x d;have m:=di.o a;have bT:=j.g.at 0;have bU:=j.g.frozen 0;have au:=cB j.below dw.o;rw[aT]at au;have HI:=Zh j;generalize E RL x 0=rn at*;have hT:=λy=>uw (v a) rn y m bn;rw[<-S.o]at hT;have lW:Qn (∀act,pG jS (λa t W=>CV w2 37 (v a) t W) a x (M (H w3)) t W .normal act (Qo W.drew (aD (M (H w2)) 0) (I Qq (v (a++[x]):Int)))):=λ_=>⟨t,HI.o.step.1,HI.o.step.2,λb hb=>.inl hb⟩;generalize v (a++[x])=Xn,v a=Xp at*;gi_wp2_with fail;have av:V.follows .mixedOrders=true:=Qd;refine wpIn_region_any av (qZ (pM Qd) _ _ _ _ ?_);change wpAnyIn _ _ _ _ _ _ _ _ _ (World.drew _);refine iT 1 (Y (O (aD (M (H w)) 10))) ?_;refine iT 3 (I J (x:Int)) ?_
  repeat' first
   |refine iJ 0 2 ?_ ?_
   |refine iJ 0 5 ?_ ?_
   |refine iQ 0 ?_
   |refine iQ 2 ?_
   |refine iQ 5 ?_
   |refine iQ 6 ?_
   |refine iQ 7 ?_
   |refine iT 4 (Y (O (aD rb (ro+x)))) ?_
   |refine iD ?_;exact lW.o ⟨#[],[]⟩
   |intro K z;go_simp;refine z _ _ ?_;clear z K
   |intro K z;go_simp;refine⟨trivial,rfl,ZU.2 ((hT _).mono ?_)⟩;rintro e Wt ⟨rfl,rfl⟩;refine z _ _ ?_;clear z K
 case done=>
  rintro ys o' P aV j aO aP hD;have ax:ys=SL:=by simpa [jS] using aV
  subst ax;rw[dm.o]at j;have bV:=j.g.at 0;have aa:=j.below;obtain⟨dA,D⟩:=aS hD ((ZV.1 hD).1);by_cases h0:C=0
  .have bW:Qn (R=0):=by show R=0;rw[vU.o,Zb h0]
   subst h0;gi_wp2;refine⟨Qa,.inl ⟨_,_,rfl,Xc hD,?_⟩⟩;refine⟨_,results_tmp rfl _ _ _,by rw[bW.o];rfl,?_⟩;exact L.o.trans (((aa.mono L.o.size)).trans ((ZQ (s:=λb=>b<M (H w)) _ _ (Ql L.o.size Q.o)).below (ZN L.o.size aa.size) (λ_ h=>h)))
  .have bX:Qn (R=max (r CL) 1):=by show R=_;rw[vU.o,Zg h0]
   have dF:((C:Int)==0)=false:=by rw[XW];omega
   obtain⟨W3,aW⟩:=eX (P.alloc (Qt #[I Qq (C:Int)] 37));have ML:Bw P W3:=by rw[<-aW];exact cZ _ _
   have bY:Qn (GB W3 (M (H P)) 37 #[I Qq (C:Int)]):=by rw[<-aW];exact lT _ _
   have ag:Qn (M (H W3)=M (H P)+1):=by rw[<-aW];show _=_;simp
   have c2:=cB ML (cB aa dz.o);obtain⟨vJ,aX⟩:=aS ML aa;gi_wp2;refine rY jS (gf:=45) (s:=I Qq (pc:Int)) rfl (enters_of func45 Qd rfl) (bu.o P) vJ.o rfl
    (λa t W=>CV P 37 (r a) t W) (λb=>b=M (H P)) ?_ ?_ ⟨by rw[bH.o];exact bY.o,vJ.o,λ_=>Iff.rfl⟩
    (λx=>{ tmps:=#[Qu #[v0,v1,v2,v3,v4,v5,v6,v7,v8,v9,aG,aH,aI],Qu #[I J kind,I Qq (ps:Int),I Qq (pc:Int),od,I Qq (aK:Int),I Qq (aM:Int)],Z ao pl cap,Y (O (aD (M (H w)) 0)),Y (O (aD (M (H w1)) 0)),undef,I Qq 0,Y (O (aD (M (H w2)) 0)),undef,Y (O (aD (M (H P)) 0)),I J (x:Int),Y (O (aD (M (H w1)) 0)),I J kind,Qr F,undef,undef,undef,undef,Y (O (aD (M (H w1)) 1)),I Qq (ps:Int),.func (.func 45) #[I Qq (ps:Int)] #[],undef,undef,undef,undef,undef,undef,undef,undef,I Qq (C:Int),Qr F,I Qq (C:Int),Y (O (aD (M (H w1)) 2)),I Qq (pc:Int),.func (.func 45) #[I Qq (pc:Int)] #[],I J (x:Int),undef,undef,undef,undef,undef,undef,undef,undef,undef],defers:=[] }) ?abf ?aiS ?aiT
   .rintro b rfl;exact⟨Za _,Qk ag.o⟩
   .intro a t A B h hk;exact h.keep (Qk ag.o) hk
   case abf=>
    intro l x W K z;have he:jS.enc x=I J (x:Int):=rfl;gi_wp2;exact z
   case aiS=>
    intro l a x t W j G u bN dE;have d:=bP.o x (uB (by simpa [jS] using G));have bq:=aX.o.trans (j.below.mono aX.o.size);have ak:=L.o.trans (bq.mono L.o.size);obtain⟨rb,ro,aT,aU⟩:=dY.get (dY.below ak HP.o) (i:=x) (by rw[yV.o];exact d);have bS:=aU x (by rw[yV.o];exact d);have S:=Zh (bI.o a x d);obtain⟨dP,bn⟩:=aZ.o x d;have m:=aF.o a;have bT:=j.g.at 0;have bU:=j.g.frozen 0;have au:=cB bq dx.o;rw[aT]at au;have HI:=Zh j;generalize E PL x 0=rn at*;have lW:Qn (∀act,pG jS (λa t W=>CV P 37 (r a) t W) a x (M (H W3)) t W .normal act (Qo W.drew (aD (M (H P)) 0) (I Qq (r (a++[x]):Int)))):=λ_=>⟨t,HI.o.step.1,HI.o.step.2,λb hb=>.inl hb⟩;have HQ:Qn (r a<=18446744073709551615):=m;generalize r (a++[x])=Xn,r a=Xp at*;have dG:((Xp:Int)).tdiv (rn:Int)=(Xn:Int):=by rw[S.o,Int.tdiv_eq_ediv_of_nonneg X,Int.natCast_ediv]
    have dH:IntKind.u64.wrap (Xn:Int)=(Xn:Int):=EU (by have:=HQ.o;rw[S.o];have:=Nat.div_le_self Xp rn;omega);have dI:¬rn=0:=X;gi_wp2_with fail;have av:V.follows .mixedOrders=true:=Qd;refine wpIn_region_any av (qZ (pM Qd) _ _ _ _ ?_);change wpAnyIn _ _ _ _ _ _ _ _ _ (World.drew _);refine iT 1 (Y (O (aD (M (H w)) 12))) ?_;refine iT 3 (I J (x:Int)) ?_
    repeat' first
     |refine iJ 0 2 ?_ ?_
     |refine iJ 0 5 ?_ ?_
     |refine iQ 0 ?_
     |refine iQ 2 ?_
     |refine iQ 5 ?_
     |refine iQ 6 ?_
     |refine iQ 7 ?_
     |refine iT 4 (Y (O (aD rb (ro+x)))) ?_
     |refine iD ?_;exact lW.o ⟨#[],[]⟩
     |intro K z;go_simp;refine z _ _ ?_;clear z K
   case aiT=>
    rintro ys o' W4 aV j dB dC dD;have ax:CL=ys:=by symm;simpa [jS] using aV
    subst ax;have bV:=j.g.at 0;have aA:=j.below;have aB:=aF.o CL;have cu:Qn _:=bX;generalize r CL=yv at*;obtain⟨rv,bM⟩:=eY (max yv 1);have dJ:max (yv:Int) 1=(rv:Int):=X;have dL:max (1:Int) (yv:Int)=(rv:Int):=X;have dM:(if (yv:Int)<1 then 1 else (yv:Int))=(rv:Int):=by split <;> omega
    have cz:Qn (R=rv):=by show R=rv;rw[bM];exact cu.o
    have cK:=(aA.block _ D.o).trans dA.o;clear bM bI bu HP aZ bH aF dB dC;gi_wp2;refine⟨Qa,.inl ⟨_,_,rfl,Xc dD,?_⟩⟩;refine⟨Qa,.inl ⟨_,_,rfl,Xc ((ZR (Ql D.o ag.o)).trans cK),?_⟩⟩;refine⟨_,results_tmp rfl _ _ _,by rw[cz.o];rfl,?_⟩;have s0:=L.o.size;have s3:=Q.o;have s4:=ag.o;have s5:=aA.size;have s6:=D.o;refine L.o.trans (((aX.o.mono s0)).trans ((aA.mono X).trans (((ZQ (s:=λb=>b<M (H w)) _ _ X).below X (λ_ h=>h)).trans ((ZQ (s:=λb=>b<M (H w)) _ _ X).below (by rw[World.putObj_size];omega) (λ_ h=>h)))))
end
def MM(f:ay)(ts:Qy af)(q:ae)(p:aC)(ao:PN)(cap:Nat)(ps:Qy aC)(w:U)(hp:PartsAt w ao ps)(h0:0<N ps)(hk:eT p.kind=T) :
  Cb 163 #[Qu (f.cells ts q),Qu p.cells,Z ao (N ps) cap] w (I Qq (((E ps 0 bG).size:Nat):Int)):=by obtain⟨⟨L,P,rfl,t,u,v,y,l,A⟩,-⟩:=hp.2 0 h0;rw[Nat.zero_mul,XH]at l;have b:=λx=>vN p.kind x;rw[hk]at b;generalize f.cells ts q=FC at*;obtain⟨B,C,g,m⟩:=bC w FC 82;obtain⟨Q,D,i,j⟩:=bC B p.cells 102;have d:=i;have a:=az g d;have n:=j;have G:=n.at 0;have K:=cB a l;have r:=Zh a;generalize p.kind=k,(E ps 0 bG).size=z,p.cells=PC at*;clear hk hp t u v y l A g i m j n a d;go_enter func163,ntmps163;go_wp2_with fail;refine(b _).mono ?_;rintro e R ⟨rfl,rfl⟩;go_wp2;go_ret;exact⟨rfl,r.o⟩
def MN(f:ay)(ts:Qy af)(q:ae)(p:aC)(ao:PN)(cap:Nat)(ps:Qy aC)(w:U)(ok:Ok ts q)(hf:f.At ts q w)(hp:PartsAt w ao ps)(hs:p.sources<2 ^ (N q.src.xs))(hc:p.clauses<2 ^ (N q.wh))(h0:eT p.kind=T->0<N ps) :
  Calls V 163 #[Qu (f.cells ts q),Qu p.cells,Z ao (N ps) cap] w λe w'=>e=Qv (I Qq (((if eT p.kind=T then (E ps 0 bG).size else nI ts q p.sources p.clauses):Nat):Int))/\Bw w w':=by
 cases hk:eT p.kind with
 |true =>
  rw[Zb rfl];exact MM f ts q p ao cap ps w hp (h0 hk) hk
 |false =>
  rw[Zg Qa];exact IC f ts q p ao (N ps) cap w ok hf hs hc hk
def Az(n:ai)(w:U)(h:n.kind=1->0<=n.source/\n.source<64) :
  Cb 162 #[Qu n.cells] w (I Qq (((if n.kind=1 then 2 ^ n.source.toNat else 0):Nat):Int)):=by
 obtain⟨l,y,d,f⟩:=bC w n.cells 138;have b:=d;have i:=f;have t:=i.at 0;have u:=i.at 3;have j:=Zh b;clear f i d b;generalize n.cells=NC at*;by_cases a:n.kind=1
 .obtain⟨r,z⟩:=h a;obtain⟨s,m⟩:=XR r;rw[Zb a];have p:=rX (M (H l)) s (l.alloc (Qt #[I J (s:Int)] 3)) Qa X;have q:2 ^ n.source.toNat=2 ^ s:=by rw[m];rfl
  rw[q];obtain⟨R,g⟩:∃R,R=2 ^ s:=⟨_,rfl⟩;rw[<-g]at p ⊢;clear q g;rw[m]at u;rw[a]at t;have v:Qn (Bw w (l.alloc (Qt #[I J (s:Int)] 3))):=j.o.trans ((cZ _ _).mono j.o.size);clear h m a r z;go_enter func162,ntmps162;go_wp2_with fail;refine p.mono ?_;rintro e B ⟨rfl,rfl⟩;go_wp2;go_ret;exact⟨rfl,v.o⟩
 .rw[Zg a];have A:(n.kind==1)=false:=by simp[a]
  generalize n.kind=k at*;go_enter func162,ntmps162;go_wp2;go_ret;exact⟨rfl,j.o⟩
def IG(a:Nat)(g:Nat->Nat):Nat->Nat
 |0=>a
 |k+1=>IG a g k|||g k
def AA{a:Nat}{g:Nat->Nat}{n:Nat}(ha:a<2 ^ n):∀k,(∀i,i<k->g i<2 ^ n)->IG a g k<2 ^ n
 |0,_=>ha
 |k+1,h=>XP (AA ha k (λi hi=>h i X)) (h k X)
def D5(a:Nat)(g:Nat->Nat)(hk:k<=2)(h:∀i,k<=i->g i=0):IG a g k=a|||g 0|||g 1:=by
 rcases (by omega:k=0∨k=1∨k=2) with rfl|rfl|rfl
 .rw[h 0 X,h 1 X,Nat.or_zero,Nat.or_zero];rfl
 .rw[h 1 X,Nat.or_zero];rfl
 .rfl
def World.fJ(W:U)(B:Nat)(v0 v1 v2 v3 v4 v5:Qm):World:=
 Qo (Qo (Qo (Qo (Qo (Qo W (aD B 0) v0) (aD B 1) v1) (aD B 2) v2) (aD B 3) v3) (aD B 4) v4) (aD B 5) v5
def World.O9{t:TypeId}{a0 a1 a2 a3 a4 a5:Qm}(h:GB W B t #[a0,a1,a2,a3,a4,a5])(v0 v1 v2 v3 v4 v5:Qm):GB (World.fJ W B v0 v1 v2 v3 v4 v5) B t #[v0,v1,v2,v3,v4,v5]:=
 (((((h.set 0 v0).set 1 v1).set 2 v2).set 3 v3).set 4 v4).set 5 v5
def World.D6(W:U)(B:Nat)(v0 v1 v2 v3 v4 v5:Qm):Kept (λx=>x≠B) W (World.fJ W B v0 v1 v2 v3 v4 v5):=by unfold World.fJ;exact(((((Xd _ (aD B 0) _ (λh=>h rfl)).trans (Xd _ (aD B 1) _ (λh=>h rfl))).trans (Xd _ (aD B 2) _ (λh=>h rfl))).trans (Xd _ (aD B 3) _ (λh=>h rfl))).trans (Xd _ (aD B 4) _ (λh=>h rfl))).trans (Xd _ (aD B 5) _ (λh=>h rfl))
def VT{v0 v1 v2 v3 v4 v5:Qm}(h:GB W B 102 #[v0,v1,v2,v3,v4,v5]):(loadVar 102 (aD B 0)).run V W=.ok (Qu #[v0,v1,v2,v3,v4,v5]) W:=by obtain⟨a,b,d,e,f,g⟩:=h.k6;simp[go_sem,a,b,d,e,f,g]
def AJ(f:ay)(ts:Qy af)(q:ae)(n:ai)(ao:PN)(cap:Nat)(ps:Qy aC)(w:U)(ok:Ok ts q)(hf:f.At ts q w)(hcl:n.cl.At w)(hco:n.co.At w)(hcap:N n.co.xs<=n.co.cap)(hp:PartsAt w ao ps)(hk1:1<=n.kind)(hk10:n.kind<=10)
  (hl:N ps=arity n.kind) (hsm:iC (N q.wh) n.cl.xs) (hsr:n.kind=1->0<=n.source/\n.source<N q.src.xs) (hps:∀i,i<N ps->(E ps i bG).sources<2 ^ (N q.src.xs)/\(E ps i bG).clauses<2 ^ (N q.wh)) :
  Calls V 108 #[Qu (f.cells ts q),Qu n.cells,Z ao (N ps) cap] w λe w'=>∃p:aC,e=Qv (Qu p.cells)/\p.d=lG ts q n (E ps 0 bG).d (E ps 1 bG).d/\p.Ok w'/\p.sources<2 ^ (N q.src.xs)/\p.clauses<2 ^ (N q.wh)/\(p.order=n.co∨p.order=(E ps 0 bG).order∨p.order=⟨Qs,0,[]⟩)/\Bw w w':=by
 have dx:arity n.kind<=2:=by unfold arity;split <;> (try split) <;> omega
 have dN:=hp.1;have aM:∀i,N ps<=i->E ps i bG=bG:=λi hi=>by simp[List.getD,hi]
 obtain⟨ow,aI⟩:∃ow,ow=(if n.kind=1 then 2 ^ n.source.toNat else 0):=⟨_,rfl⟩;have Pb:=ok.small;have Pd:=ok.mf;have bA:ow<2 ^ (N q.src.xs):=by
  rw[aI];split
  .rename_i h
   have:=hsr h;exact XN X X
  .exact Nat.two_pow_pos _
 obtain⟨sc,aJ⟩:=eY (bD n.cl.xs);have bB:sc<2 ^ (N q.wh):=by rw[aJ];exact pq hsm
 obtain⟨u,au⟩:=eY (IG ow (λi=>(E ps i bG).sources));obtain⟨v,av⟩:=eY (IG sc (λi=>(E ps i bG).clauses));have bE:Qn (u 0=ow):=by show _=_;rw[au];rfl
 have bF:=Zh (by  rw[av];rfl:v 0=sc)
 have Ff:Qn (∀k,u (k+1)=u k|||(E ps k bG).sources):=λk=>by rw[au];rfl
 have MR:Qn (∀k,v (k+1)=v k|||(E ps k bG).clauses):=λk=>by rw[av];rfl
 have DY:Qn (∀k,k<=N ps->u k<2 ^ (N q.src.xs)):=λk j=>by rw[au];exact AA bA k (λi hi=>(hps i X).1)
 have pJ:Qn (∀k,k<=N ps->v k<2 ^ (N q.wh)):=λk j=>by rw[av];exact AA bB k (λi hi=>(hps i X).2)
 have aa:∀{x m:Nat},m<=64->x<2 ^ m->x<18446744073709551616:=λhm hx=>Zy hx (ZA (n:=2) X hm);have aL:∀{x:Nat},x<18446744073709551616->x<=bQ:=λh=>by unfold bQ;omega
 have vR:=Zh (by  rw[au];exact D5 _ _ X (λi hi=>by rw[aM i hi];rfl):u (N ps)=ow|||(E ps 0 bG).sources|||(E ps 1 bG).sources)
 have bH:=Zh (by  rw[av];exact D5 _ _ X (λi hi=>by rw[aM i hi];rfl):v (N ps)=sc|||(E ps 0 bG).clauses|||(E ps 1 bG).clauses)
 have bI:Qn (∀(o:Qx) (z:Nat),o=(if n.kind=6 then n.co.xs else if 2<=n.kind/\n.kind<=5 then (E ps 0 bG).order.xs else [])->z=(if eT n.kind=T then (E ps 0 bG).size else nI ts q (u (N ps)) (v (N ps)))->
   bW.mk n.kind (u (N ps)) (v (N ps)) o z (kr n.kind z (E ps 0 bG).cost (E ps 0 bG).size (E ps 1 bG).cost (E ps 1 bG).size)=lG ts q n (E ps 0 bG).d (E ps 1 bG).d):=λo z ho hz=>by unfold lG;rw[ho,hz,vR.o,bH.o,aI,aJ];rfl
 have aN:Qn (∀x,Cb 162 #[Qu n.cells] x (I Qq ((ow:Nat):Int))):=λx=>by rw[aI];exact Az n x (λh=>⟨(hsr h).1,Qk ((hsr h).2)⟩)
 have ax:Qn (∀x,Bw w x->Ce 47 #[n.cl.val] x (I Qq ((sc:Nat):Int))):=λx hx=>by rw[aJ];exact DU n.cl.ad n.cl.cap n.cl.xs x (Q8 hx hcl) (λy hy=>⟨(hsm y hy).1,Qk ((hsm y hy).2)⟩)
 have aO:Qn (∀(b x y:Nat) (W:U),Qp W (aD b 0)=O (I Qq (x:Int))->Qp W (aD b 1)=O (I Qq (y:Int))->x<18446744073709551616->y<18446744073709551616->Ce 87 #[Z (O (aD b 0)) 2 2] W (I Qq ((x|||y:Nat):Int))):=λb x y W h0 h1 hx hy=>jh b x y W h0 h1 hx hy;have D7:Qn (∀(o:ah) (x:U),Bw w x->Calls V 163 #[Qu (f.cells ts q),Qu #[I J n.kind,I Qq (u (N ps):Int),I Qq (v (N ps):Int),o.val,I Qq 0,I Qq 0],Z ao (N ps) cap] x λe w'=>e=Qv (I Qq (((if eT n.kind=T then (E ps 0 bG).size else nI ts q (u (N ps)) (v (N ps))):Nat):Int))/\Bw x w'):=λo x hx=>
  MN f ts q ⟨n.kind,u (N ps),v (N ps),o,0,0⟩ ao cap ps x ok (hf.below hx) (hp.below hx) (DY.o _ (Za _)) (pJ.o _ (Za _)) (λh=>by
   have h2:7<=n.kind:=by unfold eT at h;simp at h;omega
   rw[hl];unfold arity;rw[Zg X,Zg X];omega)
 obtain⟨P,hZ⟩:∃P,P=(if eT n.kind=T then (E ps 0 bG).size else nI ts q (u (N ps)) (v (N ps))):=⟨_,rfl⟩;have aP:P<=bQ:=by
  rw[hZ];split
  .rename_i h
   have h2:7<=n.kind:=by unfold eT at h;simp at h;omega
   exact(hp.2 0 (by rw[hl];unfold arity;rw[Zg X,Zg X];omega)).2.size
  .exact VO _ _ _ _
 rw[<-hZ]at D7;have bJ:Qn (∀(o:ah) (x:U),Bw w x->Cb 164 #[Qu #[I J n.kind,I Qq (u (N ps):Int),I Qq (v (N ps):Int),o.val,I Qq (P:Int),I Qq 0],Z ao (N ps) cap] x (I Qq (kr n.kind P (E ps 0 bG).cost (E ps 0 bG).size (E ps 1 bG).cost (E ps 1 bG).size:Nat))):=λo x hx=>
  ME ⟨n.kind,u (N ps),v (N ps),o,P,0⟩ ao cap ps x (hp.below hx) aP (λh=>by have h:n.kind≠1:=h;rw[hl];unfold arity;rw[Zg h];split <;> omega) (λh3 h5=>by have h3:3<=n.kind:=h3;have h5:n.kind<=5:=h5;rw[hl];unfold arity;rw[Zg X,Zb ⟨h3,h5⟩];omega)
 have aA:Qn (∀(o:ah) (W:U),o.At W->N o.xs<=o.cap->o.xs=(if n.kind=6 then n.co.xs else if 2<=n.kind/\n.kind<=5 then (E ps 0 bG).order.xs else [])->(o=n.co∨o=(E ps 0 bG).order∨o=⟨Qs,0,[]⟩)->Bw w W->
   ∃p:aC,Ending.returned (Qu #[I J n.kind,I Qq (u (N ps):Int),I Qq (v (N ps):Int),o.val,I Qq (P:Int),I Qq ((kr n.kind P (E ps 0 bG).cost (E ps 0 bG).size (E ps 1 bG).cost (E ps 1 bG).size:Nat):Int)])=Qv (Qu p.cells)/\p.d=lG ts q n (E ps 0 bG).d (E ps 1 bG).d/\p.Ok W/\p.sources<2 ^ (N q.src.xs)/\p.clauses<2 ^ (N q.wh)/\(p.order=n.co∨p.order=(E ps 0 bG).order∨p.order=⟨Qs,0,[]⟩)/\Bw w W):=λo W ho dK dL Pe hb=>
  ⟨⟨n.kind,u (N ps),v (N ps),o,P,kr n.kind P (E ps 0 bG).cost (E ps 0 bG).size (E ps 1 bG).cost (E ps 1 bG).size⟩,rfl,bI.o o.xs P dL hZ,⟨ho,dK,aL (aa Pb (DY.o _ (Za _))),aL (aa Pd (pJ.o _ (Za _))),aP,VP _ _ _ _ _ _⟩,DY.o _ (Za _),pJ.o _ (Za _),Pe,hb⟩
 have bK:Qn (∀k,k<=N ps->u k<18446744073709551616):=λk j=>aa Pb (DY.o k j);have bL:Qn (∀k,k<=N ps->v k<18446744073709551616):=λk j=>aa Pd (pJ.o k j);have bM:Qn (∀k,k<N ps->(E ps k bG).sources<18446744073709551616/\(E ps k bG).clauses<18446744073709551616):=λk j=>⟨aa Pb (hps k j).1,aa Pd (hps k j).2⟩;have bN:Qn (2<=n.kind/\n.kind<=5->0<N ps):=λh=>by rw[hl];unfold arity;rw[Zg X];split <;> omega
 generalize kr n.kind P (E ps 0 bG).cost (E ps 0 bG).size (E ps 1 bG).cost (E ps 1 bG).size=CT at*;have HP:Qn _:=hp;have nG:Qn _:=hco;have bO:=Zh hcap;obtain⟨v0,v1,v2,v3,v4,v5,v6,v7,v8,v9,dA,dB,dC,bZ,-⟩:=XY f ts q;rw[bZ]at D7 ⊢;clear bI DY pJ vR bH hZ aP aa hps hsr hsm hl hf hcl hco hcap hp ok aI aJ au av bA bB bZ aM dx Pb Pd hk1 hk10;obtain⟨kind,nl,nr,src,⟨ca,cc,cl⟩,key,⟨da,dc,co⟩⟩:=n;unfold ai.cells ah.val at*;simp only at*;obtain⟨w1,dD,hk1,aV⟩:=bC w #[v0,v1,v2,v3,v4,v5,v6,v7,v8,v9,dA,dB,dC] 82;obtain⟨w2,dE,aW,aX⟩:=bC w1 #[I J kind,I J nl,I J nr,I J src,Z ca (N cl) cc,I J key,Z da (N co) dc] 138;obtain⟨w3,dF,cK,cO⟩:=bC w2 #[I J 0,I Qq 0,I Qq 0,Z Qs 0 0,I Qq 0,I Qq 0] 102;have aQ:=cK;have aj:=az aW aQ;have bP:=az hk1 aj;have lu:=aV.of (aj.block _ aV.lt);obtain⟨iZ,jJ,kT,jY,jZ,kU,kV,qG,qE,qF,jB,lK,jC⟩:=lu.k13;have tT:=aX.of (aQ.block _ aX.lt);obtain⟨Ay,Ar,Au,MS,Av,MU,RG⟩:=tT.k7;have bR:=cO;have Q:=Zh bP;have si:Qn _:=bR;have dz:=Zh (ZN hk1.size aW.size);clear hk1 aW cK aV aX cO lu tT bR bP aj aQ;go_enter func108,ntmps108;go_upto_region 1 with fail;go_cut [7] from 10 to 17 (λc wx=>∃B,c=Y (O (aD B 0))/\M (H w3)<=B/\GB wx B 102 #[I J kind,I Qq (ow:Int),I Qq (sc:Int),Z Qs 0 0,I Qq 0,I Qq 0]/\Bw w3 wx)
 case first=>
  refine wH w3 λa=>?_;refine wA3 0 a ?_;refine wA2 4 a ?_;refine wJ 3 8 (λK g=>?_) λK g=>?_
  .skip;go_simp;refine XX (aN.o _) ?_;rintro e R ⟨rfl,aK⟩;refine oT g a aK λa=>?_
   clear g K;have A:=a;refine wJ 6 8 (λK g=>?_) λK g=>?_
   .skip;go_simp;refine XX (ax.o _ (Q.o.trans (a.mono Q.o.size))) ?_;rintro e wz ⟨rfl,r⟩;have r:=r.symm;subst r;refine g.o _ _ a λa=>?_
    clear g K;refine O0 7 a ?_;refine wR 8 λK g=>?_;go_simp;refine oA g a λa=>?_;clear g K;refine wR 9 λK g=>?_;go_simp;refine g.o _ _ (A.trans ((cZ _ _).mono A.size)) (λa=>?_);clear g K;refine wD ?_;try simp only[pU]
    go_wp2_with fail;go_meet;exact⟨M (H R),rfl,A.size,lT R _,a⟩
   .skip;go_simp;refine oA g a λa=>?_
    clear g K;refine wR 6 λK g=>?_;go_simp;refine XX (ax.o _ (Q.o.trans (a.mono Q.o.size))) ?_;rintro e wz ⟨rfl,r⟩;have r:=r.symm;subst r;refine g.o _ _ a λa=>?_;clear g K;refine O0 7 a ?_;refine wR 9 λK g=>?_;go_simp;refine g.o _ _ (A.trans ((cZ _ _).mono A.size)) (λa=>?_);clear g K;refine wD ?_;try simp only[pU]
    go_wp2_with fail;go_meet;exact⟨M (H R),rfl,A.size,lT R _,a⟩
  .skip;go_simp;refine oA g a λa=>?_
   clear g K;refine wR 3 λK g=>?_;go_simp;refine XX (aN.o _) ?_;rintro e R ⟨rfl,aK⟩;refine oT g a aK λa=>?_;clear g K;have A:=a;have l:=(show GB (w3.drew.alloc (Qt #[I J 0,I Qq 0,I Qq 0,Z Qs 0 0,I Qq 0,I Qq 0] 102)) (M (H w3)) 102 #[I J 0,I Qq 0,I Qq 0,Z Qs 0 0,I Qq 0,I Qq 0] from lT w3.drew _).of (aK.block _ (by show M (H w3)<_;simp));have z0:=l.at 0;have y0:=l.frozen 0;have z1:=l.at 1;have y1:=l.frozen 1;have z2:=l.at 2;have y2:=l.frozen 2;have z3:=l.at 3;have y3:=l.frozen 3;have z4:=l.at 4;have y4:=l.frozen 4;have z5:=l.at 5;have y5:=l.frozen 5;refine wR 6 λK g=>?_;go_simp;refine XX (ax.o _ (Q.o.trans (a.mono Q.o.size))) ?_;rintro e wz ⟨rfl,r⟩;have r:=r.symm;subst r;refine g.o _ _ a λa=>?_;clear g K;refine O0 7 a ?_;refine wR 9 λK g=>?_;go_simp;refine g.o _ _ (A.trans ((World.D6 R (M (H w3)) (I J kind) (I Qq (ow:Int)) (I Qq (sc:Int)) (Z Qs 0 0) (I Qq 0) (I Qq 0)).below (B:=M (H w3)) A.size (λb hb=>Nat.ne_of_lt hb))) (λa=>?_);clear g K;refine wD ?_;try simp only[pU]
   go_wp2_with fail;go_meet;exact⟨M (H w3),rfl,Za _,World.O9 l (I J kind) (I Qq (ow:Int)) (I Qq (sc:Int)) (Z Qs 0 0) (I Qq 0) (I Qq 0),a⟩
 case rest=>
 obtain⟨B,rfl,hB,df,aY⟩:=hcut;obtain⟨w4,dG⟩:=eY (wc);subst dG;have vX:=hd df;have rf:Qn (∀x,Kept (λb=>b≠B) w4 x->Bw w3 x):=λx j=>aY.trans (j.below aY.size (λb hb=>X));have ak:Qn (∀x,Kept (λb=>b≠B) w4 x->Bw w x):=λx j=>Q.o.trans ((rf.o x j).mono Q.o.size);clear df aY hB aN ax dD dE dF;go_wp2;go_loopw [20] (λiv wr=>∃k:Nat,k<=N ps/\iv=I J k/\Qn (GB wr B 102 #[I J kind,I Qq (u k:Int),I Qq (v k:Int),Z Qs 0 0,I Qq 0,I Qq 0])/\Qn (Kept (λb=>b≠B) w4 wr)) (λiv _=>N ps-(intOf iv).toNat)
 case atStart=>exact⟨0,ZB _,rfl,by rw[bE.o,bF.o];exact vX.o,ZO _ _⟩
 case round=>
  obtain⟨k,j,rfl,HG,vJ⟩:=hrel;by_cases bz:k<N ps
  .obtain⟨⟨pb,po,rfl,c0,c1,c2,c3,c4,c5⟩,-⟩:=(PartsAt.below (ak.o wr vJ.o) HP.o).2 k bz;obtain⟨dh,di⟩:=bM.o k bz;have bS:=bK.o k j;have aj:=bL.o k j;obtain⟨aZ,bf⟩:=aS (Ff.o k) (MR.o k);obtain⟨⟨D,G,L⟩,sW⟩:∃o,o=(E ps k bG).order:=⟨_,rfl⟩
   rw[<-sW]at c3;unfold ah.val at c3;simp only at c3;clear sW;generalize (E ps k bG).kind=pk,(E ps k bG).sources=ss,(E ps k bG).clauses=cs,(E ps k bG).size=pz,(E ps k bG).cost=pt at*;have sZ:Qn (∀x,x=u (k+1)->∀y,y=v (k+1)->∀wy,GB wy B 102 #[I J kind,I Qq (x:Int),I Qq (y:Int),Z Qs 0 0,I Qq 0,I Qq 0]->Kept (λb=>b≠B) wr wy->GB wy B 102 #[I J kind,I Qq (u (k+1):Int),I Qq (v (k+1):Int),Z Qs 0 0,I Qq 0,I Qq 0]/\Kept (λb=>b≠B) w4 wy):=λx hx y hy wy h1 h2=>⟨by rw[<-hx,<-hy];exact h1,vJ.o.trans h2⟩;obtain⟨s1,bg⟩:=eY (u (k+1));obtain⟨t1,bn⟩:=eY (v (k+1));have bT:=Zh (sZ.o s1 bg t1 bn);rw[<-bg]at aZ;rw[<-bn]at bf;generalize u k=s,v k=t at*;clear sZ bg bn;obtain⟨wb,dP,kb,gi⟩:=bC wr #[I J pk,I Qq (ss:Int),I Qq (cs:Int),Z D (N L) G,I Qq (pz:Int),I Qq (pt:Int)] 102;have gb:=HG.o.of (kb.block _ HG.o.lt);have dO:=HG.o.lt;obtain⟨wu,dQ,ku,gu⟩:=bC wb #[I Qq (s:Int),I Qq (ss:Int)] 78;have aB:=gb.of (ku.block _ gb.lt);have bU:=gi.of (ku.block _ gi.lt);have hU:=aO.o (M (H wb)) s ss wu (gu.cell 0) (gu.cell 1) bS dh;rw[<-aZ.o]at hU;obtain⟨wv,dm⟩:=eX (Qo wu (aD B 1) (I Qq (s1:Int)));have kv:Kept (λb=>b≠B) wu wv:=by rw[<-dm];exact Xd _ _ _ (λh=>h rfl)
   have aF:GB wv B 102 #[I J kind,I Qq (s1:Int),I Qq (t:Int),Z Qs 0 0,I Qq 0,I Qq 0]:=by rw[<-dm];exact aB.set 1 _
   have bV:=bU.keep kv (by show M (H wr)≠B;omega);obtain⟨wx,dR,kx,gx⟩:=bC wv #[I Qq (t:Int),I Qq (cs:Int)] 78;have aG:=aF.of (kx.block _ aF.lt);have aR:=aO.o (M (H wv)) t cs wx (gx.cell 0) (gx.cell 1) aj di;rw[<-bf.o]at aR;have bX:GB (Qo wx (aD B 2) (I Qq (t1:Int))) B 102 #[I J kind,I Qq (s1:Int),I Qq (t1:Int),Z Qs 0 0,I Qq 0,I Qq 0]:=aG.set 2 _;have ky:Kept (λb=>b≠B) wr (Qo wx (aD B 2) (I Qq (t1:Int))):=((ZP kb (λb hb _=>hb)).trans ((ZP ku (λb hb _=>hb)).trans (kv.trans (ZP kx (λb hb _=>hb))))).trans (Xd _ _ _ (λh=>h rfl));have jK:=Zh (bT.o _ bX ky);have b1:=gb.at 1;have b2:=gi.at 1;have b3:=aB.at 1;have b4:=aB.frozen 1;have b5:=aF.at 2;have b6:=bV.at 2;have b7:=aG.at 2;have b8:=aG.frozen 2;clear bT bX ky kb gi gb ku gu aB bU kv aF bV kx gx aG HG vJ aZ bf dh di bS aj;go_wp2_with fail;refine hU.mono ?_;rintro e wq ⟨rfl,ag⟩;have ag:=ag.symm;subst ag;clear hU;go_wp2_with fail;refine aR.mono ?_;rintro e wq ⟨rfl,ag⟩;have ag:=ag.symm;subst ag;clear aR;go_wp2;go_roundw
   case rel=>exact⟨k+1,X,Qe,jK.o.1,jK.o.2⟩
   case measure=>exact XK
  .obtain rfl:k=N ps:=X
   obtain⟨R,uC⟩:=eY (wr);subst uC;clear bz j bE bF Ff MR aO bK bL bM;generalize u (N ps)=S,v (N ps)=C at*;have e0:=cB (rf.o R vJ.o) Ay;have b3:=HG.o.at 3;have f3:=HG.o.frozen 3;rcases (by omega:kind=6∨kind=2∨kind=3∨kind=4∨kind=5∨(¬kind=6/\¬(2<=kind/\kind<=5))) with j|j|j|j|j|j
   all_goals
    first
    |have h6:kind=6:=j
     have e6:=cB (rf.o R vJ.o) RG;have HE:=Zh (λ(W:U) (hB:Bw w W)=>aA.o ⟨da,dc,co⟩ W (Q8 hB nG.o) bO.o (by rw[Zb h6]) (.inl rfl) hB);obtain⟨D,ha⟩:=eY (da);obtain⟨G,hc⟩:=eY (dc);obtain⟨L,hx⟩:=eY (co);subst ha hc hx;rw[j]at e0;clear h6 j;obtain⟨w6,oV⟩:=eX (Qo R (aD B 3) (Z D (N L) G));have k6:Kept (λb=>b≠B) R w6:=by rw[<-oV];exact Xd _ _ _ (λh=>h rfl)
     have g6:GB w6 B 102 #[I J kind,I Qq (S:Int),I Qq (C:Int),Z D (N L) G,I Qq 0,I Qq 0]:=by rw[<-oV];exact HG.o.set 3 _
    |have aH:2<=kind/\kind<=5:=X
     obtain⟨⟨pb,po,rfl,-,-,-,c3,-,-⟩,bq⟩:=HP.o.2 0 (bN.o aH);rw[Nat.zero_mul,XH]at c3;have dM:=bN.o aH;obtain⟨⟨D,G,L⟩,sW⟩:∃o,o=(E ps 0 bG).order:=⟨_,rfl⟩;have h1:=bq.order;have h2:=bq.cap;rw[<-sW]at h1 h2 c3;have HE:=Zh (λ(W:U) (hB:Bw w W)=>aA.o ⟨D,G,L⟩ W (Q8 hB h1) h2 (by rw[Zg X,Zb aH];exact congrArg ah.xs sW) (.inr (.inl sW)) hB);simp only at c3;have c3:=cB (ak.o R vJ.o) c3;rw[j]at e0;clear sW j aH bq h1 h2;obtain⟨w6,oV⟩:=eX (Qo R (aD B 3) (Z D (N L) G));have k6:Kept (λb=>b≠B) R w6:=by rw[<-oV];exact Xd _ _ _ (λh=>h rfl)
     have g6:GB w6 B 102 #[I J kind,I Qq (S:Int),I Qq (C:Int),Z D (N L) G,I Qq 0,I Qq 0]:=by rw[<-oV];exact HG.o.set 3 _
    |have j2:(kind==2)=false:=by rw[XW];omega
     have j3:(kind==3)=false:=by rw[XW];omega
     have j4:(kind==4)=false:=by rw[XW];omega
     have j5:(kind==5)=false:=by rw[XW];omega
     have j6:(kind==6)=false:=by rw[XW];omega
     have HE:=Zh (λ(W:U) (hB:Bw w W)=>aA.o ⟨Qs,0,[]⟩ W ⟨Qa,λi hi=>absurd hi Qa⟩ (Za _) (by rw[Zg j.1,Zg j.2]) (.inr (.inr rfl)) hB);obtain⟨D,G,L,HC⟩:∃(D:PN) (G:Nat) (L:Qx),Qn (D=Qs/\G=0/\L=[]):=⟨_,_,_,rfl,rfl,rfl⟩;have g6:GB R B 102 #[I J kind,I Qq (S:Int),I Qq (C:Int),Z D (N L) G,I Qq 0,I Qq 0]:=by obtain⟨rfl,rfl,rfl⟩:=HC.o;exact HG.o
     obtain⟨w6,oV⟩:=eY (R);subst oV;have k6:Kept (λb=>b≠B) w6 w6:=ZO _ _;clear j b3 f3
    have K6:=Zh (vJ.o.trans k6);have bY:=ak.o w6 K6.o;have aT:=rf.o w6 K6.o;obtain⟨d0,d1,d2,d3,d4,d5,d6,d7⟩:=kS aT iZ jJ kT jY jZ kU kV qG;obtain⟨d8,d9,dH,dI,dJ⟩:=jW aT qE qF jB lK jC;obtain⟨p0,p1,p2,p3,p4,p5⟩:=g6.k6;have G6:=hd g6;have cu:=D7.o ⟨D,G,L⟩ w6 bY;clear k6 g6 aT bY D7 vX;go_wp2_with fail;refine cu.mono ?_;rintro e w7 ⟨rfl,qy⟩;have g7:=G6.o.of (qy.block _ G6.o.lt);obtain⟨w8,dn⟩:=eX (Qo w7 (aD B 4) (I Qq (P:Int)));have g8:GB w8 B 102 #[I J kind,I Qq (S:Int),I Qq (C:Int),Z D (N L) G,I Qq (P:Int),I Qq 0]:=by rw[<-dn];exact g7.set 4 _
    have K8:Qn (Kept (λb=>b≠B) w4 w8):=K6.o.trans ((ZP qy (λb hb _=>hb)).trans (by rw[<-dn];exact Xd _ _ _ (λh=>h rfl)));have q4:=g7.at 4;have f4:=g7.frozen 4;obtain⟨r0,r1,r2,r3,r4,r5⟩:=g8.k6;have G8:=hd g8;have MW:=bJ.o ⟨D,G,L⟩ w8 (ak.o w8 K8.o);clear cu g7 g8 qy bJ d0 d1 d2 d3 d4 d5 d6 d7 d8 d9 dH dI dJ p0 p1 p2 p3 p4 p5 e0;go_wp2_with fail;refine MW.mono ?_;rintro e w9 ⟨rfl,bu⟩;have g9:=G8.o.of (bu.block _ G8.o.lt);obtain⟨wT,dw⟩:=eX (Qo w9 (aD B 5) (I Qq (CT:Int)));have gT:GB wT B 102 #[I J kind,I Qq (S:Int),I Qq (C:Int),Z D (N L) G,I Qq (P:Int),I Qq (CT:Int)]:=by rw[<-dw];exact g9.set 5 _
    have KT:Kept (λb=>b≠B) w4 wT:=K8.o.trans ((ZP bu (λb hb _=>hb)).trans (by rw[<-dw];exact Xd _ _ _ (λh=>h rfl)));have q5:=g9.at 5;have f5:=g9.frozen 5;obtain⟨t0,t1,t2,t3,t4,t5⟩:=gT.k6;have aU:GB w3 (M (H w2)) 102 #[I J 0,I Qq 0,I Qq 0,Z Qs 0 0,I Qq 0,I Qq 0]:=si.o;have gR:=aU.of ((rf.o wT KT).block _ aU.lt);have x0:=gR.at 0;have y0:=gR.frozen 0;have x1:=gR.at 1;have y1:=gR.frozen 1;have x2:=gR.at 2;have y2:=gR.frozen 2;have x3:=gR.at 3;have y3:=gR.frozen 3;have x4:=gR.at 4;have y4:=gR.frozen 4;have x5:=gR.at 5;have y5:=gR.frozen 5;have cz:Bw w (World.fJ wT (M (H w2)) (I J kind) (I Qq (S:Int)) (I Qq (C:Int)) (Z D (N L) G) (I Qq (P:Int)) (I Qq (CT:Int))):=(ak.o wT KT).trans ((World.D6 _ _ _ _ _ _ _ _).below (ak.o wT KT).size (λb hb=>Qk dz.o));obtain⟨Fs,jK⟩:=aS (VT (World.O9 gR (I J kind) (I Qq (S:Int)) (I Qq (C:Int)) (Z D (N L) G) (I Qq (P:Int)) (I Qq (CT:Int)))) (HE.o (World.fJ wT (M (H w2)) (I J kind) (I Qq (S:Int)) (I Qq (C:Int)) (Z D (N L) G) (I Qq (P:Int)) (I Qq (CT:Int))) cz);unfold World.fJ at Fs jK;clear MW g9 gT KT aU gR cz bu aA r0 r1 r2 r3 r4 r5;go_wp2;try obtain⟨rfl,rfl,rfl⟩:=HC.o
    exact X8 (rZ (p:=6) rfl rfl Fs.o) rfl jK.o
theorem AP(a:Addr)(cap:Nat)(xs:Qx)(w:U)(hx:IntsAt w (O a) xs)(hl:N xs<=1000000) :
  Calls V 41 #[Z (O a) (N xs) cap] w λe w'=>∃v,e=Qv v/\w'.ownsRow (M (H w)) 3 1 v (N xs) (xs.map (Value.int J))/\Bw w w':=by
 obtain⟨n,p,b,d,f⟩:=Xl Tryz.kE;obtain⟨C,w',q,r,t,⟨y,z,A,rfl⟩⟩:=mJ (P:=V) w 22 22 3 n (.int J 0) 1 8 underlying22 p b d f rfl Qc a (N xs) cap (xs.map (Value.int J)) Qa
  (λj u g=>by
   rw[Xt]at g;by_cases i:j<N xs
   .obtain⟨D,off',e,G⟩:=hx.2 j i
    grind
   .rw[X9 X]at g;cases g) (λu B=>by obtain⟨x,_,rfl⟩:=ZL.1 B;rfl) hl Qc
 have l:Qn _:=r;have m:=Zh t;have k:∀W,(binOp .eql 22 (.slice (O a) (N xs) cap) (.slice Qs 0 0)).run V W=.ok (.bool F) W:=λW=>Ja W 22 _ (O a) _ _ _ _ underlying22;go_enter func41,ntmps41;go_wp2_with (first|(at_builtin;refine Xz rfl (.tmp 5) (.tmp 6) 22 rfl (.slice (O (aD (M (H w)) 0)) 0 0) (.slice (O a) (N xs) cap) (.slice y z A) w' rfl rfl q ?_));go_wp2;go_ret;exact⟨_,rfl,l.o,m.o⟩
def AQ(w:U):Ce 41 #[.slice Qs 0 0] w (.slice Qs 0 0):=by have a:∀W,(binOp .eql 22 (.slice Qs 0 0) (.slice Qs 0 0)).run V W=.ok (.bool T) W:=λW=>Ja W 22 _ Qs _ _ _ _ underlying22;go_enter func41,ntmps41;go_wp2;go_ret;exact⟨rfl,rfl⟩
def nZ(x:ah)(w:U)(hx:x.At w)(hn:x.ad=Qs->x.cap=0)(hl:N x.xs<=1000000) :
  Calls V 41 #[x.val] w λe w'=>∃v,e=Qv v/\w'.ownsRow (M (H w)) 3 1 v (N x.xs) (x.xs.map (Value.int J))/\Bw w w':=by
 obtain⟨f,cap,xs⟩:=x
 cases f with
 |none =>
  obtain rfl:cap=0:=hn rfl;have d:xs=[]:=by
   cases xs with
   |nil=>rfl
   |cons x xs=>obtain⟨b,g,e,_⟩:=hx.2 0 Qa;cases e
  subst d;refine(AQ w).mono ?_;rintro e w' ⟨rfl,rfl⟩;exact⟨_,rfl,Xm _ _ _ _,Q9 _ _⟩
 |some a=>exact AP a cap xs w hx hl
structure Env(f:ay)(ts:Qy af)(q:ae)(W0:U):Prop where
 ok:Ok ts q
 facts:f.At ts q W0
 shapes:bM W0 0
 one:1<=N q.src.xs
 five:N q.src.xs<=5
 eight:N q.wh<=8
 ord:q.group=F->bP q.ord.xs (N q.aU.xs)=T
 few:N q.ord.xs<=4
 keys:gB ts q q.keys.xs
 want:q.group=F->gB ts q (gW q)
 ai8:N q.keys.xs<=4
 dR:N q.keys.xs<=q.keys.cap
 ai9:q.keys.ad=Qs->q.keys.cap=0
def Live(W0:U)(b:Nat):Prop:=∃o v,Qp W0 (aD b o)=O v
def Live.lt(h:Live W0 b):b<M (H W0):=by obtain⟨o,v,h⟩:=h;exact ZW h
structure Under(W0 w:U):Prop where
 size:M (H W0)<=M (H w)
 cell:∀b o v,Qp W0 (aD b o)=O v->Qp w (aD b o)=O v
def Under.kept(h:Under W0 w){s:Qz}(hk:Kept s w w')(hs:∀b,Live W0 b->s b):Under W0 w':=
 ⟨ZN h.size hk.size,λb o v e=>by
  have a:=h.cell b o v e;rw[ZX (hk.block b (ZW a) (hs b ⟨o,v,e⟩))];exact a⟩
theorem Under.cells(h:Under W0 w){f:Nat->Qm}(hc:bg W0 ao n f):bg w ao n f:=λi d=>by obtain⟨b,a,e,hc⟩:=hc i d;exact⟨b,a,e,h.cell _ _ _ hc⟩
def Under.ints(h:Under W0 w){xs:Qx}(hi:IntsAt W0 ao xs):IntsAt w ao xs:=⟨hi.1,h.cells hi.2⟩
def Under.aeK(h:Under W0 w){xs:Qy Nat}(hi:dY W0 ao xs):dY w ao xs:=⟨hi.1,h.cells hi.2⟩
def Under.aL(h:Under W0 w){cs:Qy (Nat × Int)}(hi:fK W0 ao cs):fK w ao cs:=⟨hi.1,λi g=>by
 obtain⟨b,a,e,d,f⟩:=hi.2 i g;exact⟨b,a,e,h.cell _ _ _ d,h.cell _ _ _ f⟩⟩
def Under.conds(h:Under W0 w){cs:Qy aA}(hi:bE W0 ao cs):bE w ao cs:=⟨hi.1,λi l=>by
 obtain⟨b,a,e,d,f,g,j,k⟩:=hi.2 i l;exact⟨b,a,e,h.cell _ _ _ d,h.cell _ _ _ f,h.cell _ _ _ g,h.cell _ _ _ j,h.cell _ _ _ k⟩⟩
def Under.query(h:Under W0 w)(hq:q.At W0):q.At w:=
 ⟨h.ints hq.src,⟨hq.wh.1,h.cells hq.wh.2.1,λi a=>h.conds (hq.wh.2.2 i a)⟩,h.ints hq.keys,h.ints hq.sums,h.ints hq.aU,h.ints hq.ord⟩
def Under.facts(h:Under W0 w)(hf:f.At ts q W0):f.At ts q w:=
 ⟨h.query hf.query,h.aL hf.aL,h.aeK hf.rows,h.aeK hf.conc,h.aeK hf.parts,hf.nl,hf.pl⟩
structure Fz(Fq:Qz)(W0 w:U):Prop where
 below:Under W0 w
 low:∀b,Live W0 b->Fq b
 high:∀b,M (H w)<=b->Fq b
def Fz.next(h:Fz Fq W0 w)(hb:Bw w w'):Fz Fq W0 w':=
 ⟨h.below.kept (ZP (s:=λb=>b<M (H w)) hb (λ_ h _=>h)) (λ_ hb=>Zy hb.lt h.below.size),h.low,λb a=>h.high b (ZN hb.size a)⟩
def Env.at'(Ez:Env f ts q W0)(h:Fz Fq W0 w):f.At ts q w:=h.below.facts Ez.facts
structure M0(Fq:Qz)(w:U)(n:ai):Prop where
 cl:n.cl.At w
 clf:nE Fq n.cl.ad (N n.cl.xs)
 cln:n.cl.ad=Qs->n.cl.cap=0
 co:n.co.At w
 cof:nE Fq n.co.ad (N n.co.xs)
 con:n.co.ad=Qs->n.co.cap=0
 cap:N n.co.xs<=n.co.cap
 clb:N n.cl.xs<=1000
 cob:N n.co.xs<=1000
structure uG(Fq:Qz)(w:U)(a:Nat)(p:aC):Prop where
 c0:Qp w (aD a 0)=O (I J p.kind)
 c1:Qp w (aD a 1)=O (I Qq (p.sources:Int))
 c2:Qp w (aD a 2)=O (I Qq (p.clauses:Int))
 c3:Qp w (aD a 3)=O p.order.val
 c4:Qp w (aD a 4)=O (I Qq (p.size:Int))
 c5:Qp w (aD a 5)=O (I Qq (p.cost:Int))
 ok:p.Ok w
 ord:nE Fq p.order.ad (N p.order.xs)
def oH.kI{p:aC}{n:ai}{bo:PN}{bc:Nat}{bs:Qy (Nat × aP)}(h:oH Tq Fq w a t p n bo bc bs):uG Fq w a p:=
 ⟨h.gb.cell 0,h.gb.cell 1,h.gb.cell 2,h.gb.cell 3,h.gb.cell 4,h.gb.cell 5,h.ok,h.ord⟩
def uG.below{Fq:Qz}{w w':U}{a:Nat}{p:aC}(h:uG Fq w a p)(hb:Bw w w'):uG Fq w' a p:=
 ⟨cB hb h.c0,cB hb h.c1,cB hb h.c2,cB hb h.c3,cB hb h.c4,cB hb h.c5,h.ok.below hb,h.ord⟩
def aF.kI{Tq:TypeId}{Fq:Qz}{w:U}{a:Nat}{t:aP}(h:aF Tq Fq w a t):∃p,uG Fq w a p/\p.d=t.d:=by obtain⟨p,n,bo,bc,bs,b,_⟩:=h.get;exact⟨p,b.kI,b.part⟩
def IJ{Tq:TypeId}{Fq:Qz}{w:U}:∀{bs:Qy (Nat × aP)},(∀x∈bs,aF Tq Fq w x.1 x.2)->∃ps:Qy aC,N ps=N bs/\∀i,i<N bs->uG Fq w (E (bs.map Prod.fst) i 0) (E ps i bG)/\(E ps i bG).d=(E (bs.map Prod.snd) i mP).d
 |[],_=>⟨[],rfl,λi hi=>by simp at hi⟩
 |x::bs,h=>by
  obtain⟨ps,hl,hp⟩:=IJ λy hy=>h y (XJ _ hy);obtain⟨p,hp0,hd⟩:=(h x XL).kI;refine⟨p::ps,by simp[hl],λi hi=>?_⟩
  cases i with
  |zero=>exact⟨hp0,hd⟩
  |succ i=>exact hp i (by simpa using hi)
def aeL{bs:Qy aP}{ps:Qy aC}(hl:N ps=N bs)(h:∀i,i<N bs->(E ps i bG).d=(E bs i mP).d)(i:Nat):(E ps i bG).d=(E bs i mP).d:=by
 by_cases a:i<N bs
 .exact h i a
 .rw[Je,X9 X,Je,X9 X];rfl
theorem AV{α:Type}(l:List α)(d:α){i:Nat}(hi:i<N l):l.take (i+1)=l.take i++[E l i d]:=by rw[List.take_add_one,Xu hi,Je,Xu hi];rfl
theorem lL{xs:Qy Nat}(h:w.ownsRow base e 1 v n (xs.map λx=>Value.pointer (O (aD x 0))))(hl:N xs<=1000000) :
  ∃d cap,v=Z d (N xs) cap/\dh w d xs/\N xs<=cap/\(d=Qs->cap=0)/\∀a,d=O a->base<=a.block:=by
 have j:n=N xs:=by have:=h.1;rw[ZH]at this;omega
 subst j;rcases h.2 with⟨rfl,h1⟩|⟨g,cap,cur,rfl,hb,hh,hc,_,_,ht⟩
 .have:=List.length_eq_zero_iff.1 h1;subst this;exact⟨Qs,0,rfl,⟨Qa,λi f=>by simp at f⟩,Qa,λ_=>rfl,λa e=>by cases e⟩
 .refine⟨O (aD g 0),cap,rfl,⟨hl,λi f=>⟨g,0,rfl,?_⟩⟩,hc,(λe=>by cases e),(λa e=>by cases e;exact hb)⟩;have b:(xs.map λx=>Value.pointer (O (aD x 0)))[i]? = O (Y (O (aD (E xs i 0) 0))):=by grind
  rw[<-ht,XG]at b;split at b
  .rw[ZC];simp only[World.cell?,hh]
   simpa using b
  .cases b
def Tryz.oJ:(V.info? 93).map (λi=>(i.zero,i.size,i.bytes))=O (O (Y Qs),1,8):=Qd
theorem wI(W:U)(base:Nat)(v:Qm)(xs:Qy Nat)(hown:W.ownsRow base 93 1 v (N xs) (xs.map λx=>Value.pointer (O (aD x 0))))(hl:N xs<=1000)(hb:base<=M (H W))(a:Nat)(ty:TypeId) :
  ∃d w',(Builtin.append_ #[139,139] ty #[v,Z (O (aD (M (H W)) 0)) 1 1]).run V (W.alloc (Qt #[Y (O (aD a 0))] 93))=.ok d w'/\
   w'.ownsRow base 93 1 d (N (xs++[a])) ((xs++[a]).map λx=>Value.pointer (O (aD x 0)))/\Kept (λb=>v.ownBlock≠O b) W w'/\(∃a m c,d = Z a m c)/\(d.ownBlock=v.ownBlock∨d.ownBlock=O (M (H W)+1)):=by
 obtain⟨j,k,e,f,g⟩:=Xl Tryz.oJ;obtain⟨d,w',n,p,q,r,l⟩:=iq (P:=V) W base 139 ty 93 j _ 1 8 underlying139 k e f g rfl Qc v (N xs) _ hown hb [Y (O (aD a 0))] rfl (λu i=>by
  rw[Xj]at i;rw[i];rfl) hl Qc
 grind
theorem AX(a:Addr)(cap:Nat)(xs:Qy Nat)(w:U)(hx:dh w (O a) xs) :
  Calls V 118 #[Z (O a) (N xs) cap] w λe w'=>∃v,e=Qv v/\w'.ownsRow (M (H w)) 93 1 v (N xs) (xs.map λx=>Value.pointer (O (aD x 0)))/\Bw w w':=by
 obtain⟨n,p,b,d,f⟩:=Xl Tryz.oJ;obtain⟨C,w',q,r,t,⟨y,z,A,rfl⟩⟩:=mJ (P:=V) w 139 139 93 n (Y Qs) 1 8 underlying139 p b d f rfl Qc a (N xs) cap (xs.map λx=>Value.pointer (O (aD x 0))) Qa
  (λj u g=>by
   rw[Xt]at g;by_cases i:j<N xs
   .obtain⟨D,off',e,G⟩:=hx.2 j i
    grind
   .rw[X9 X]at g;cases g) (λu B=>by obtain⟨x,_,rfl⟩:=ZL.1 B;rfl) hx.1 Qc
 have l:Qn _:=r;have m:=Zh t;have k:∀W,(binOp .eql 139 (.slice (O a) (N xs) cap) (.slice Qs 0 0)).run V W=.ok (.bool F) W:=λW=>Ja W 139 _ (O a) _ _ _ _ underlying139;go_enter func118,ntmps118;go_wp2_with (first|(at_builtin;refine Xz rfl (.tmp 5) (.tmp 6) 139 rfl (.slice (O (aD (M (H w)) 0)) 0 0) (.slice (O a) (N xs) cap) (.slice y z A) w' rfl rfl q ?_));go_wp2;go_ret;exact⟨_,rfl,l.o,m.o⟩
def AY(w:U):Ce 118 #[.slice Qs 0 0] w (.slice Qs 0 0):=by have a:∀W,(binOp .eql 139 (.slice Qs 0 0) (.slice Qs 0 0)).run V W=.ok (.bool T) W:=λW=>Ja W 139 _ Qs _ _ _ _ underlying139;go_enter func118,ntmps118;go_wp2;go_ret;exact⟨rfl,rfl⟩
def CX(bo:PN)(bc:Nat)(xs:Qy Nat)(w:U)(hx:dh w bo xs)(hn:bo=Qs->bc=0) :
  Calls V 118 #[Z bo (N xs) bc] w λe w'=>∃v,e=Qv v/\w'.ownsRow (M (H w)) 93 1 v (N xs) (xs.map λx=>Value.pointer (O (aD x 0)))/\Bw w w':=by
 cases bo with
 |none =>
  obtain rfl:bc=0:=hn rfl;have d:xs=[]:=by
   cases xs with
   |nil=>rfl
   |cons x xs=>obtain⟨b,f,e,_⟩:=hx.2 0 Qa;cases e
  subst d;refine(AY w).mono ?_;rintro e w' ⟨rfl,rfl⟩;exact⟨_,rfl,Xm _ _ _ _,Q9 _ _⟩
 |some a =>
  exact AX a bc xs w hx
def Jf:=@AV
theorem AZ(Ez:Env f ts q W0)(hz:Fz Fq W0 w)(n:ai)(hn:M0 Fq w n)(bo:PN)(bc:Nat)(bs:Qy (Nat × aP))(hp:dh w bo (bs.map Prod.fst))(hnil:bo=Qs->bc=0)
  (hbs:∀x∈bs,aF 141 Fq w x.1 x.2/\iP q x.2) (hl:N bs=arity n.kind) (hk1:1<=n.kind) (hk10:n.kind<=10) (hsm:iC (N q.wh) n.cl.xs) (hsr:n.kind=1->0<=n.source/\n.source<N q.src.xs) :
  Calls V 76 #[Qu (f.cells ts q),Qu n.cells,Z bo (N bs) bc] w λe w'=>∃a,e=Qv (Y (O (aD a 0)))/\aF 141 Fq w' a (au ts q n (bs.map Prod.snd))/\M (H w)<=a/\a<M (H w')/\Bw w w':=by
 obtain⟨ps,t,u⟩:=IJ (λx A=>(hbs x A).1);have Q:N bs<=2:=by rw[hl];unfold arity;split <;> (try split) <;> omega
 have j:N (bs.map Prod.fst)=N bs:=ZH _;have hd:=aeL (bs:=bs.map Prod.snd) (ps:=ps) (by rw[t,ZH]) (λi L=>(u i (by rw[ZH]at L;exact L)).2);have ak:∀i,i<N ps->(E ps i bG).sources<2 ^ (N q.src.xs)/\(E ps i bG).clauses<2 ^ (N q.wh):=λi L=>by have e:=hd i;have hm:E (bs.map Prod.snd) i mP∈bs.map Prod.snd:=Xy (by rw[ZH];omega);obtain⟨x,A,aU⟩:=ZL.1 hm;have ht:=(hbs x A).2;rw[aU]at ht;have e1:(E ps i bG).sources=(E (bs.map Prod.snd) i mP).d.sources:=congrArg bW.sources e;have e2:(E ps i bG).clauses=(E (bs.map Prod.snd) i mP).d.clauses:=congrArg bW.clauses e;rw[e1,e2];exact⟨ht.src,ht.cls⟩
 -- what is called
 have Lj:Qn (∀(x:U) (a:PN) (c:Nat),Bw w x->PartsAt x a ps->Calls V 108 #[Qu (f.cells ts q),Qu n.cells,Z a (N ps) c] x λe w'=>∃p:aC,e=Qv (Qu p.cells)/\p.d=(au ts q n (bs.map Prod.snd)).d/\p.Ok w'/\nE Fq p.order.ad (N p.order.xs)/\Bw x w'):=λx a c A P9=>by
  refine(AJ f ts q n a c ps x Ez.ok ((Ez.at' hz).below A) (Q8 A hn.cl) (Q8 A hn.co) hn.cap P9 hk1 hk10 (by rw[t,hl]) hsm hsr ak).mono ?_;rintro e w' ⟨p,he,yh,r,_,_,sW,hb⟩;refine⟨p,he,by rw[yh,hd 0,hd 1];rfl,r,?_,hb⟩;rcases sW with h|h|h
  .rw[h];exact hn.cof
  .rw[h];by_cases h0:0<N bs
   .exact(u 0 h0).1.ord
   .have:E ps 0 bG=bG:=Qb
    rw[this];intro h;exact absurd h Qc
  .rw[h];intro h;exact absurd h Qc
 have pJ:Qn (∀x:U,Bw w x->Calls V 118 #[Z bo (N bs) bc] x λe w'=>∃v,e=Qv v/\w'.ownsRow (M (H x)) 93 1 v (N bs) ((bs.map Prod.fst).map λx=>Value.pointer (O (aD x 0)))/\Bw x w'):=λx A=>by have:=CX bo bc (bs.map Prod.fst) x (hp.below A) hnil;rw[j]at this;exact this
 have lW:Qn (∀(x:U) (a:Nat) (p:aC) (v:Qm) (y:U),M (H x)=a->M (H w)<=M (H y)->Bw w y->Bw y x->p.d=(au ts q n (bs.map Prod.snd)).d->p.Ok x->nE Fq p.order.ad (N p.order.xs)->x.ownsRow (M (H y)) 93 1 v (N bs) ((bs.map Prod.fst).map λx=>Value.pointer (O (aD x 0)))->
   aF 141 Fq (x.alloc (Qt (DL p n v) 141)) a (au ts q n (bs.map Prod.snd))/\Bw w (x.alloc (Qt (DL p n v) 141))):=by intro x a p v y aM aN bz bA yh r ag hv;subst aM;obtain⟨ao,cap,rfl,aV,aG,aW,aH⟩:=lL hv (by rw[j];omega);rw[j]at aG ⊢;have R:Bw w x:=bz.trans (bA.mono aN);have S:=cZ x (Qt (DL p n (Z ao (N bs) cap)) 141);have g:Bw w (x.alloc (Qt (DL p n (Z ao (N bs) cap)) 141)):=R.trans (S.mono R.size);refine⟨aF.intro (p:=p) (n:=n) (bo:=ao) (bc:=cap) (bs:=bs) ?_ (λz bB=>(hbs z bB).1.below g),g⟩;exact { blk:=hz.high _ R.size,gb:=lT _ _,part:=yh,ok:=r.below S,ord:=ag,cl:=Q8 g hn.cl,clf:=hn.clf,cln:=hn.cln,co:=Q8 g hn.co,cof:=hn.cof,con:=hn.con,ptrs:=aV.below S,ptf:=λ_ a e=>hz.high _ (ZN aN (aH a e)),VB:=aG,nil:=aW,lay:=(by show pF n ((bs.map Prod.snd).map aP.ns)=_;rw[List.map_map];rfl),two:=Q,kind:=⟨hk1,hk10⟩,lens:=⟨hn.clb,hn.cob⟩ }
 have RQ:Qn (dh w bo (bs.map Prod.fst)):=hp;have av:Qn (∀i,i<N bs->uG Fq w (E (bs.map Prod.fst) i 0) (E ps i bG)):=λi L=>(u i L).1;have aO:Qn (∀i,i<N bs->ps.take (i+1)=ps.take i++[E ps i bG]):=λi L=>Jf ps bG X;have yV:Qn (N ps=N bs):=t;have bD:Qn (N bs<=2):=Q;have vC:Qn (N (bs.map Prod.fst)=N bs):=j;have bE:N bs<=1000:=X;clear ak hd u t hp hnil hbs hl hk1 hk10 hsm hsr hn hz Ez Q j;generalize au ts q n (bs.map Prod.snd)=GT at*;obtain⟨kind,nl,nr,src,⟨ca,cc,cl⟩,key,⟨da,dc,co⟩⟩:=n;obtain⟨v0,v1,v2,v3,v4,v5,v6,v7,v8,v9,B,C,D,bZ,-⟩:=XY f ts q;rw[bZ]at Lj ⊢;clear bZ;simp only[ai.cells,ah.val,DL]at*;generalize bs.map Prod.fst=bf,N bs=bl at*;clear bs;obtain⟨w1,aX,aI,W⟩:=bC w #[v0,v1,v2,v3,v4,v5,v6,v7,v8,v9,B,C,D] 82;obtain⟨G,aY,aa,aJ⟩:=bC w1 #[I J kind,I J nl,I J nr,I J src,Z ca (N cl) cc,I J key,Z da (N co) dc] 138;have lu:GB G (M (H w)) 82 #[v0,v1,v2,v3,v4,v5,v6,v7,v8,v9,B,C,D]:=W.of (aa.block _ W.lt);have qO:Qn (GB G (M (H w)) 82 #[v0,v1,v2,v3,v4,v5,v6,v7,v8,v9,B,C,D]):=lu;have ax:Qn (GB G (M (H w1)) 138 #[I J kind,I J nl,I J nr,I J src,Z ca (N cl) cc,I J key,Z da (N co) dc]):=aJ;have aQ:Qn (Bw w G):=az aI aa;clear aI aa W aJ lu;go_enter func76,ntmps76;go_wp2;clear aX aY;go_loopw [7,12] (λpv iv wr=>∃k:Nat,k<=bl/\iv=I J (k:Int)/\Qn (wr.ownsRow (M (H G)) 102 6 pv (N (ps.take k)) ((ps.take k).flatMap aC.list))/\Qn (Bw G wr)) (λ_ iv _=>bl-(intOf iv).toNat)
 case atStart=>exact⟨0,ZB _,rfl,Xm _ _ _ _,Q9 _ _⟩
 case round=>
  obtain⟨k,hk,rfl,HQ,vz⟩:=hrel;have g:Bw w wr:=az aQ.o vz.o;by_cases P:k<bl
  .obtain⟨bb,M5,rfl,aK⟩:=dh.get (RQ.o.below g) (i:=k) (by rw[vC.o];exact P);have aR:=aK k (by rw[vC.o];exact P);have hP:=(av.o k P).below g;have RU:Qn _:=aO.o k P;obtain⟨p,hp⟩:=eY (E ps k bG)
   rw[<-hp]at hP RU;obtain⟨pa,P9⟩:=eY (E bf k 0);rw[<-P9]at hP aR;obtain⟨c0,c1,c2,c3,c4,c5,-,-⟩:=hP;obtain⟨qa,qm,qc,rfl⟩:=Xh HQ.o;have aA:M (H G)<=M (H wr):=vz.o.size;obtain⟨v',w5,xO,tQ,aL,⟨xa,xm,xc,rfl⟩,aZ⟩:=yg wr (M (H G)) (Z qa qm qc) (ps.take k) HQ.o (by rw[XT];omega) aA p 98;rw[<-RU.o]at tQ;have Cv:Qn _:=tQ;have ko:Qn (Bw G w5):=vz.o.trans (aL.below aA (λb hb e=>Qk ((Xg HQ.o e).1)));obtain⟨pk,ss,cs,⟨oa,xQ,ox⟩,pz,pt⟩:=p;simp only[aC.cells,ah.val]at*;clear hp tQ aL aZ aK P9 RU HQ vz g;go_wp2_with (first|(at_builtin;refine Xz rfl (.tmp 16) (.tmp 21) 98 rfl (Z qa qm qc) (Z (O (aD (M (H wr)) 0)) 1 1) (Z xa xm xc) w5 rfl rfl xO ?_));go_wp2;go_roundw
   case rel=>exact⟨k+1,X,Qe,Cv.o,ko.o⟩
   case measure=>exact XK
  .have aS:bl=k:=X
   subst aS;rw[XQ (by rw[yV.o];exact Za _)]at HQ;obtain⟨w3,bg⟩:=eY (wr);subst bg;obtain⟨qa,qc,rfl,bn⟩:=xY HQ.o (by rw[yV.o];omega) (λi L=>((av.o i (by rw[yV.o]at L;exact L)).below g).ok);have aT:Qn (PartsAt w3 qa ps):=bn;have l:Qn _:=g;have gA:GB w3 (M (H w)) 82 #[v0,v1,v2,v3,v4,v5,v6,v7,v8,v9,B,C,D]:=qO.o.of (vz.o.block _ qO.o.lt);have gN:GB w3 (M (H w1)) 138 #[I J kind,I J nl,I J nr,I J src,Z ca (N cl) cc,I J key,Z da (N co) dc]:=ax.o.of (vz.o.block _ ax.o.lt);obtain⟨a0,a1,a2,a3,a4,a5,a6,a7,a8,a9,jq,jP,bF⟩:=gA.k13;obtain⟨n0,n1,n2,n3,n4,n5,n6⟩:=gN.k7;rw[yV.o]at Lj ⊢;go_wp2_with fail;refine wH w3 λm=>?_;refine wA3 0 m ?_;refine wA2 4 m ?_;refine wR 3 λK hK=>?_;go_simp;refine XX (Lj.o _ qa qc (l.o.trans (m.mono l.o.size)) (PartsAt.below m aT.o)) ?_;rintro e w4 ⟨p,rfl,yh,r,ag,hb⟩;have aB:=m.trans (hb.mono m.size);obtain⟨pk,bq,pc,⟨oa,xQ,ox⟩,pz,pt⟩:=p;simp only[aC.cells,ah.val]at*;refine oT hK m hb λm=>?_;refine wR 6 λK hK=>?_;go_simp;refine XX (pJ.o _ (l.o.trans (m.mono l.o.size))) ?_;rintro e w5 ⟨v,rfl,hv,aj⟩;have uH:=m.trans (aj.mono m.size);obtain⟨va,vn,vc,rfl⟩:=Xh hv;refine hK.o _ _ uH λm=>?_;refine O0 7 m ?_;refine wR 8 λK hK=>?_;go_simp;refine oA hK m λm=>?_;refine wR 9 λK hK=>?_;go_simp;refine hK.o _ _ m λm=>?_;refine wD ?_;try simp only[pU]
   obtain⟨hT,bu⟩:=lW.o w5 (M (H w5)) ⟨pk,bq,pc,⟨oa,xQ,ox⟩,pz,pt⟩ (Z va vn vc) w4 rfl (ZN l.o.size aB.size) (l.o.trans (aB.mono l.o.size)) aj yh (r.below aj) ag hv;have HT:Qn _:=hT;have nH:Qn _:=bu;have M6:Qn (M (H w)<=M (H w5)):=ZN l.o.size uH.size;go_wp2;go_ret;exact⟨_,rfl,HT.o,M6.o,Qa,nH.o⟩
def VV(ok:Ok ts q)(k:Nat):E (aB ts q) k 0<18446744073709551616:=by
 by_cases a:k<N q.wh
 .rw[xW ts q a];exact Zy (pq (n:=N q.src.xs) (nV ok.cat ok.src (ok.aL k a))) (ZA (n:=2) X ok.small)
 .rw[Je,X9 (by rw[XC];omega)];simp
theorem yY(f:ay)(ts:Qy af)(q:ae)(s:Nat)(w:U)(ok:Ok ts q)(hf:f.At ts q w)(hs:s<18446744073709551616) :
  Cb 148 #[Qu (f.cells ts q),I Qq (s:Int)] w (I Qq ((bu (aB ts q) s:Nat):Int)):=by
 obtain⟨P,ai,l,hg⟩:=bC w ((f.cells ts q)) 82;have u:=hg.at 11;have v:f.nl=N (aB ts q):=by rw[XC];exact hf.nl
 rw[v]at u;have g:=hf.conc.below l;have aa:=g.1;have nG:Qn _:=g;have ag:N (aB ts q)<=64:=by rw[XC];exact ok.mf
 have y:Qn (∀k x,Ce 79 #[I Qq (s:Int),I Qq ((E (aB ts q) k 0:Nat):Int)] x (Qr (aT s (E (aB ts q) k 0)))):=λk x=>kX s _ hs (VV ok k) x;have Iw:Qn (∀k,k<=64->eO (aB ts q) s k<18446744073709551616):=λk Q=>Zy (gD _ _ k) (ZA (n:=2) X Q);have z:Qn (∀k,eO (aB ts q) s (k+1)=if aT s (E (aB ts q) k 0)=T then eO (aB ts q) s k|||2 ^ k else eO (aB ts q) s k):=λk=>rfl;have A:Qn (eO (aB ts q) s 0=0):=rfl;have C:Qn (eO (aB ts q) s (N (aB ts q))=bu (aB ts q) s):=rfl;have oU:=Zh l;generalize bu (aB ts q) s=R,eO (aB ts q) s=WT,f.cells ts q=FC at*;generalize aB ts q=CN at*;obtain⟨UM,UN,UO,UQ,UR,UT,UU,UW,UX,UY⟩:=f;simp only at*;go_enter func148,ntmps148;go_wp2;go_loopw [5,11] (λsv K wr=>∃k:Nat,k<=N CN/\K=I J k/\(∃m:Nat,sv=I Qq (m:Int)/\Qn (m=WT k))/\Bw P wr) (λ_ K _=>N CN-(intOf K).toNat)
 case atStart=>exact⟨0,ZB _,rfl,⟨0,rfl,A.o.symm⟩,Q9 _ _⟩
 case round=>
  obtain⟨k,Q,rfl,⟨m,rfl,G⟩,a⟩:=hrel;by_cases r:k<N CN
  .obtain⟨xb,xo,rfl,Lg⟩:=dY.get nG.o r;have ah:=cB a (Lg k r);have b:=y.o k wr;have t:=Zh (z.o k);have IK:m<18446744073709551616:=by rw[G.o];exact Iw.o k X
   rw[<-G.o]at t;generalize E CN k 0=c at*;obtain⟨B,hB⟩:=eX (aT s c);rw[hB]at b t;have i:k<64:=X
   cases B with
   |true =>
    have j:Qn (WT (k+1)=m|||2 ^ k):=t.o;obtain⟨wa,S⟩:=eX (wr.alloc (Qt #[I J (k:Int)] 3));have Lh:=rX (M (H wr)) k wa (by rw[<-S];simp) i;obtain⟨wb,d⟩:=eX (wa.alloc (Qt #[I Qq (m:Int),I Qq ((2 ^ k:Nat):Int)] 78));have hp:2 ^ k<18446744073709551616:=XN (n:=64) X i;have D:=jh (M (H wa)) m (2 ^ k) wb (by rw[<-d];simp) (by rw[<-d];simp) IK hp;have L:Qn (Bw P wb):=by show Below _ _ _;rw[<-d,<-S];exact az (az a (cZ _ _)) (cZ _ _)
    generalize 2 ^ k=p at*;go_wp2_with fail;refine b.mono ?_;rintro e W ⟨rfl,rfl⟩;go_wp2_with fail;refine Lh.mono ?_;rintro e W ⟨rfl,rfl⟩;go_wp2_with fail;refine D.mono ?_;rintro e w3 ⟨rfl,rfl⟩;go_wp2;go_roundw
    case rel=>exact⟨k+1,X,Qe,⟨m|||p,rfl,j.o.symm⟩,L.o⟩
    case measure=>exact XK
   |false =>
    have j:Qn (WT (k+1)=m):=t.o;have L:=Zh a;go_wp2_with fail;refine b.mono ?_;rintro e W ⟨rfl,rfl⟩;go_wp2;go_roundw
    case rel=>grind
    case measure=>exact XK
  .obtain rfl:k=N CN:=X
   obtain⟨HV,HB⟩:=aS (G.o.trans C.o) a;go_wp2;go_ret;exact⟨QZ (by rw[HV.o]),az oU.o HB.o⟩
section
structure abo(w2:U)(t e:TypeId)(pre:Qy Nat)(o1:Qz)(W:U):Prop where
 ex:∃v,GB W (M (H w2)) t #[v]/\W.ownsRow (M (H w2)+1) e 1 v (N pre) (pre.map λn:Nat=>Value.int J (n:Int))/\(∀b,o1 b↔b=M (H w2)∨v.ownBlock=O b)
 below:Bw w2 W
def abo.keep{w2:U}{t e:TypeId}{pre:Qy Nat}{o1:Qz}{A B:U}{n:Nat}(h:abo w2 t e pre o1 A)(hn:M (H w2)<=n)(hk:Kept (λb=>o1 b∨b<n) A B):abo w2 t e pre o1 B:=by obtain⟨v,a,f,d⟩:=h.ex;exact⟨⟨v,a.keep hk (.inl ((d _).2 (.inl rfl))),Xf f hk (λg a=>.inl ((d g).2 (.inr a))),d⟩,h.below.trans (hk.below h.below.size (λb i=>.inr X))⟩
attribute [local go_sem] Oper.semAt_some
theorem CY(s:Nat)(hs:s<18446744073709551616)(w:U) :
  Calls V 185 #[Z Qs 0 0,.func (.func 45) #[I Qq (s:Int)] #[]] w λe w'=>∃v,e=Qv v/\w'.ownsRow (M (H w)) 3 1 v (N (dw s)) ((dw s).map (Value.int J))/\Bw w w':=by
 obtain⟨i0,hi,ak,au,av⟩:=Xl Tryz.kE;have ae:=Zh (pK s hs);have vC:Qn (N (aR s)<=64):=by show _<=_;unfold aR;grind
 have HE:=Zh (by unfold dw;rw[List.map_map];rfl:(dw s).map (Value.int J)=(aR s).map λn:Nat=>Value.int J (n:Int))
 have af:=Zh (by unfold dw;rw[ZH]:N (dw s)=N (aR s))
 generalize aR s=RS at*;obtain⟨w1,ax,ay,az⟩:=bC w #[Z Qs 0 0] 22;have k:Qn (M (H w1)=M (H w)+1):=by rw[<-ax];show _=_;simp
 have oU:=Zh ay;have qO:Qn _:=az;refine(ZU (n:=0)).1 (Xb func185 rfl trivial ?_ rfl);simp only[ntmps185,ZZ,ZK,Z0,Nat.reduceAdd,Nat.reduceSub,Z4,Z5,Z6,Z7,Z8,Z9];gi_wp2;refine rY jS (gf:=45) (s:=I Qq (s:Int)) rfl (enters_of func45 Qd rfl) (ae.o w) oU.o rfl
  (λp o1 W=>abo w 22 3 p o1 W) (λb=>b=M (H w)) ?_ ?_ ⟨⟨Z Qs 0 0,qO.o,Xm _ _ _ _,λb=>by simp[Value.ownBlock]⟩,oU.o⟩
  (λx=>{ tmps:=#[Z Qs 0 0,.func (.func 45) #[I Qq (s:Int)] #[],Y (O (aD (M (H w)) 0)),undef,Z Qs 0 0,I J (x:Int),.func (.func 45) #[I Qq (s:Int)] #[],I J (x:Int),undef,undef,undef,undef,undef],defers:=[] }) ?assign ?body ?done
 .rintro b rfl;exact⟨Za _,Qk k.o⟩
 .intro p o1 A B h hk;exact h.keep (Qk k.o) hk
 case assign=>
  intro l x W K hK;have he:jS.enc x=I J (x:Int):=rfl;gi_wp2;exact hK
 case body=>
  intro l p x o1 W hG aa _ _ aM;have aC:N p+1<=64:=by have:=aa.length_le;rw[ZH,ZG]at this;exact ZN this vC.o
  obtain⟨⟨v,m,a,tY⟩,P⟩:=hG;obtain⟨va,vn,vc,rfl⟩:=Xh a;have hc:=m.at 0;have aF:=P.size;have vX:=Zh m;have d:Qn _:=a;obtain⟨G,jE⟩:=aS tY P;have ag:=k.o;gi_wp2_with (gi_at_builtin;refine wpListIn_append_own_at _ rfl _ _ 22 rfl (M (H w)+1) 3 i0 (.int J 0) 1 8 underlying22 hi ak au av rfl Qc _ _ _ rfl (a.alloc _) (aD (M (H W)) 0) 1 1 [.int J (x:Int)] rfl rfl ?q1 ?q2 ?q3 ?q4 ?q5 ?_)
  case q1=>
   intro j u hj
   match j,hj with
   |0,hj=>simp at hj;subst hj;simp[Addr.add]
  case q2=>intro u hu;simp at hu;subst hu;rfl
  case q3=>unfold maxLen;omega
  case q4=>omega
  case q5=>simp;omega
  intro v' C i q _ aB;obtain⟨Q,R,S,rfl⟩:=Xh i;have D:Kept (λb=>(Value.slice va vn vc).ownBlock≠O b) W C:=(ZT _ _).trans (Xe q (λr e hr=>hr e));have ah:(Value.slice va vn vc).ownBlock≠O (M (H w)):=λe=>by have:=(Xg d.o e).1;omega
  have y:=vX.o.keep D ah;have aG:=y.at 0;have aH:=y.frozen 0;obtain⟨Aw,qN⟩:=aS y D;have UZ:Qn _:=i;have aI:=Zh aB;gi_wp2;have z:Kept (λb=>b≠M (H w)) C (Qo C (aD (M (H w)) 0) (Z Q R S)):=Xd _ _ _ (λh=>h rfl);have ai:∀b,(Value.slice Q R S).ownBlock=O b->M (H w)+1<=b/\b<M (H C):=λb e=>Xg UZ.o e;refine⟨λb=>b=M (H w)∨(Value.slice Q R S).ownBlock=O b,⟨⟨Z Q R S,Aw.o.set 0 _,?_,λb=>Iff.rfl⟩,?_⟩,?_,?_⟩
  .have:=Xf UZ.o z (λg hg=>Qk ((ai g hg).1));rw[ZG,Q5];exact this
  .refine jE.o.trans ((qN.o.mono (t:=λb=>b<M (H w)) λb _ f e=>?_).trans (z.mono λb _ f=>?_) |>.below jE.o.size (λb f=>f))
   .have:=(Xg d.o e).1;omega
   .exact Nat.ne_of_lt f
  .refine(qN.o.mono λb _ f e=>f ((G.o b).2 (.inr e))).trans (z.mono λb _ f e=>f ((G.o b).2 (.inl e)))
  .rintro b (rfl|f)
   .exact .inl ((G.o _).2 (.inl rfl))
   .have h3:M (H (Qo C (aD (M (H w)) 0) (Z Q R S)))=M (H C):=Qa
    grind
 case done=>
  rintro ys o' W aA hG aK aL hD;have aj:ys=RS:=by simpa [jS] using aA
  subst aj;have ag:=k.o;obtain⟨v,m,a,tY⟩:=hG.ex;have hc:=m.at 0;have G:=Zh tY;have d:Qn _:=a;obtain⟨va,vn,vc,rfl⟩:=Xh d.o;gi_wp2;have aJ:¬o' (M (H w1)):=λh=>by grind
  refine⟨Qa,.inl ⟨_,_,rfl,Xc hD,?_⟩⟩;have L:=ZQ (s:=λb=>o' b∨b<M (H w1)) W (r:=M (H w1)) (.deferred Qs) (by
   grind)
  refine⟨_,results_tmp rfl _ _ _,_,rfl,?_,?_⟩
  .rw[HE.o,af.o];have h5:=Xf d.o L (λg hg=>.inl ((G.o g).2 (.inr hg)));exact⟨h5.1,h5.2.imp id λ⟨g,cap,cur,e,f,h⟩=>⟨g,cap,cur,e,X,h⟩⟩
  .exact hG.below.trans (L.below hG.below.size (λb f=>.inr X))
def A7(s:Nat)(hs:s<18446744073709551616)(w:U) :
  Calls V 100 #[I Qq (s:Int)] w λe w'=>∃v,e=Qv v/\w'.ownsRow (M (H w)) 3 1 v (N (dw s)) ((dw s).map (Value.int J))/\Bw w w':=by
 have i:∀x,Calls V 149 #[.func (.func 45) #[I Qq (s:Int)] #[]] x λe w'=>∃v,e=Qv v/\w'.ownsRow (M (H x)) 3 1 v (N (dw s)) ((dw s).map (Value.int J))/\Bw x w':=by intro x;have b:=CY s hs x;go_enter func149,ntmps149;go_wp2_with fail;refine b.mono ?_;rintro e j ⟨v,rfl,a,g⟩;obtain⟨k,l,m,rfl⟩:=Xh a;have d:Qn _:=a;have f:=Zh g;go_wp2;go_ret;exact⟨_,rfl,d.o,f.o⟩
 have b:=i w;go_enter func100,ntmps100;go_wp2_with fail;refine b.mono ?_;rintro e j ⟨v,rfl,a,g⟩;obtain⟨k,l,m,rfl⟩:=Xh a;have d:Qn _:=a;have f:=Zh g;go_wp2;go_ret;exact⟨_,rfl,d.o,f.o⟩
end
def bN(Tq:TypeId)(Fq:Qz)(w:U)(t:aP)(e:Ending)(w':U):Prop:=
 ∃a,e=Qv (Y (O (aD a 0)))/\aF Tq Fq w' a t/\M (H w)<=a/\a<M (H w')/\Bw w w'
def eG:ah:=⟨Qs,0,[]⟩
def gL(w:U):eG.At w:=⟨Qc,λi a=>absurd a (Nat.not_lt_zero _)⟩
def M8{t:TypeId}(h:w.heap[b]? = O (Qt #[v] t (0,0))):Qp w (aD b 0)=O v:=by simp only[World.cell?,h];rfl
theorem mK{xs:Qx}(h:w.ownsRow base e 1 v n (xs.map (Value.int J)))(hl:N xs<=1000000) :
  ∃iv:ah,v=iv.val/\iv.xs=xs/\iv.At w/\(∀a,iv.ad=O a->base<=a.block)/\(iv.ad=Qs->iv.cap=0)/\N iv.xs<=iv.cap:=by
 have d:n=N xs:=by have:=h.1;rw[ZH]at this;omega
 subst d;rcases h.2 with⟨rfl,h1⟩|⟨g,cap,cur,rfl,hb,hh,hc,_,_,ht⟩
 .have:=List.length_eq_zero_iff.1 h1;subst this;exact⟨eG,rfl,rfl,gL w,(λa e=>by cases e),(λ_=>rfl),Za _⟩
 .refine⟨⟨O (aD g 0),cap,xs⟩,rfl,rfl,⟨by simp only;omega,λi j=>⟨g,0,rfl,?_⟩⟩,(λa e=>by cases e;exact hb),(λe=>by cases e),hc⟩;have f:i<N xs:=j;have b:(xs.map (Value.int J))[i]? = O (I J (E xs i 0)):=by grind
  rw[<-ht,XG]at b;split at b
  .rw[ZC];simp only[World.cell?,hh]
   simpa using b
  .cases b
def nE.nil(Fq:Qz)(ao:PN):nE Fq ao 0:=λh=>absurd h (Nat.lt_irrefl _)
def D8(Ez:Env f ts q W0)(hz:Fz Fq W0 w)(s:Int)(h0:0<=s)(h1:s<N q.src.xs) :
  Calls V 76 #[Qu (f.cells ts q),Qu #[I J 1,I J 0,I J 0,I J s,Z Qs 0 0,I J 0,Z Qs 0 0],Z Qs 0 0] w (bN 141 Fq w (au ts q (ig s) [])):=
 AZ Ez hz ⟨1,0,0,s,eG,0,eG⟩ ⟨gL w,nE.nil _ _,λ_=>rfl,gL w,nE.nil _ _,λ_=>rfl,Za _,ZB _,ZB _⟩ Qs 0 [] ⟨Qc,λi a=>absurd a (Nat.not_lt_zero _)⟩ (λ_=>rfl) (λx b=>by cases b) rfl (by decide:(1:Int)<=1) (by decide:(1:Int)<=10) (Jc _) (λ_=>⟨h0,h1⟩)
theorem ry(Ez:Env f ts q W0)(hz:Fz Fq W0 w)(n:ai)(hn:M0 Fq w n)(a b:Nat)(t:aP)(ht:aF 141 Fq w a t)(hto:iP q t)(hc:Qp w (aD b 0)=O (Y (O (aD a 0))))
  (har:arity n.kind=1) (hk1:2<=n.kind) (hk10:n.kind<=10) (hsm:iC (N q.wh) n.cl.xs) :
  Calls V 76 #[Qu (f.cells ts q),Qu n.cells,Z (O (aD b 0)) 1 1] w (bN 141 Fq w (au ts q n [t])):=
 AZ Ez hz n hn (O (aD b 0)) 1 [(a,t)] ⟨Qa,λi d=>⟨b,0,rfl,by
  grind⟩⟩ (λe=>by cases e) (λx g=>Qb) (by rw[har];rfl) X hk10 hsm (λe=>X)
theorem IP(Ez:Env f ts q W0)(hz:Fz Fq W0 w)(n:ai)(hn:M0 Fq w n)(a a' b:Nat)(t t':aP)(ht:aF 141 Fq w a t)(hto:iP q t)(ht':aF 141 Fq w a' t')(axh:iP q t')(hc:Qp w (aD b 0)=O (Y (O (aD a 0))))(hc':Qp w (aD b 1)=O (Y (O (aD a' 0))))
  (h3:3<=n.kind) (h5:n.kind<=5) (hsm:iC (N q.wh) n.cl.xs) :
  Calls V 76 #[Qu (f.cells ts q),Qu n.cells,Z (O (aD b 0)) 2 2] w (bN 141 Fq w (au ts q n [t,t'])):=
 AZ Ez hz n hn (O (aD b 0)) 2 [(a,t),(a',t')] ⟨Qa,λi g=>⟨b,0,rfl,by
  have d:i<2:=g;rw[ZC]
  match i,d with
  |0,_=>exact hc
  |1,_=>exact hc'⟩⟩ (λe=>by cases e) (λx j=>by
   grind) (by unfold arity;rw[Zg X,Zb X];rfl) X X hsm (λe=>X)
structure IntsIn(Fq:Qz)(w:U)(iv:ah):Prop where
 at':iv.At w
 inf:nE Fq iv.ad (N iv.xs)
 nil:iv.ad=Qs->iv.cap=0
 cap:N iv.xs<=iv.cap
def IntsIn.aV{Fq:Qz}{w w':U}{iv:ah}(h:IntsIn Fq w iv)(hk:Kept Fq w w'):IntsIn Fq w' iv:=⟨XI h.at' hk h.inf,h.inf,h.nil,h.cap⟩
def IntsIn.below{Fq:Qz}{w w':U}{iv:ah}(h:IntsIn Fq w iv)(hb:Bw w w'):IntsIn Fq w' iv:=⟨Q8 hb h.at',h.inf,h.nil,h.cap⟩
def IntsIn.eG(Fq:Qz)(w:U):IntsIn Fq w eG:=⟨gL w,nE.nil _ _,λ_=>rfl,Za _⟩
def IntsIn.mono{Fq G:Qz}{w:U}{iv:ah}(h:IntsIn Fq w iv)(hs:∀b,b<M (H w)->Fq b->G b):IntsIn G w iv:=⟨h.at',nE.mono h.at'.2 h.inf hs,h.nil,h.cap⟩
def pW{xs:Qx}(h:w.ownsRow base e 1 v n (xs.map (Value.int J)))(hl:N xs<=1000000)(hF:∀b,base<=b->Fq b) :
  ∃d:ah,v=d.val/\d.xs=xs/\IntsIn Fq w d:=by obtain⟨d,f,g,i,j,k,l⟩:=mK h hl;exact⟨d,f,g,i,λ_ a e=>hF _ (j a e),k,l⟩
def Bc(Fq:Qz)(w:U)(xs:Qx)(e:Ending)(w':U):Prop:=∃iv:ah,e=Qv iv.val/\iv.xs=xs/\IntsIn Fq w' iv/\Bw w w'
def Env.V3(Ez:Env f ts q W0):N (aI q)<=4:=by
 unfold aI;split
 .exact Ez.ai8
 .split
  .unfold gW;rw[ZH];exact Ez.few
  .simp
def Env.V4(Ez:Env f ts q W0)(h:Fz Fq W0 w):IntsIn Fq w q.keys:=
 ⟨h.below.ints Ez.facts.query.keys,λj a e=>h.low _ (by
  obtain⟨b,g,d,i⟩:=Ez.facts.query.keys.2 0 j;rw[e]at d;injection d with d;rw[d];exact⟨_,_,i⟩),Ez.ai9,Ez.dR⟩
theorem wL(Ez:Env f ts q W0)(hz:Fz Fq W0 w):Calls V 78 #[Qu q.cells] w (Bc Fq w (aI q)):=by
 have hq:=(Ez.at' hz).query
 cases hg:q.group with
 |true =>
  have y:=Zh (by  unfold aI;rw[Zb hg]:aI q=q.keys.xs)
  have HK:=Zh (Ez.V4 hz);generalize aI q=R at*;obtain⟨⟨z,sc,A⟩,B,C,D,group,⟨r,t,u⟩,⟨G,K,L⟩,⟨P,Q,S⟩,⟨W,oc,ox⟩⟩:=q;simp only[ae.cells,ah.val]at*;subst hg;obtain⟨w1,aa,g,k⟩:=bC w #[Z z (N A) sc,Z B (N D) C,Qr T,Z r (N u) t,Z G (N L) K,Z P (N S) Q,Z W (N ox) oc] 26;obtain⟨a0,a1,a2,a3,a4,a5,a6⟩:=k.k7;have d:=Zh g;go_enter func78,ntmps78;go_wp2;go_ret;exact⟨⟨r,t,u⟩,rfl,y.o.symm,HK.o.below d.o,d.o⟩
 |false =>
  have nG:Qn (∀x,Bw w x->Calls V 119 #[Qu q.cells] x λe w'=>∃v,e=Qv v/\w'.ownsRow (M (H x)) 3 1 v (N (gW q)) ((gW q).map (Value.int J))/\Bw x w'):=λx i=>mV q x (hq.below i) (Ez.ord hg) (Qk Ez.few);have y:Qn (aI q=if di (gW q)=T then gW q else []):=by show _=_;unfold aI;rw[Zg (by rw[hg];decide)]
  have Iw:Qn (N (gW q)<=4):=by show _<=_;unfold gW;rw[ZH];exact Ez.few
  have wM:=Zh hz.high;generalize aI q=R,gW q=WN at*;obtain⟨⟨z,sc,A⟩,B,C,D,group,⟨r,t,u⟩,⟨G,K,L⟩,⟨P,Q,S⟩,⟨W,oc,ox⟩⟩:=q;simp only[ae.cells,ah.val]at*;subst hg;obtain⟨w1,aa,g,k⟩:=bC w #[Z z (N A) sc,Z B (N D) C,Qr F,Z r (N u) t,Z G (N L) K,Z P (N S) Q,Z W (N ox) oc] 26;obtain⟨a0,a1,a2,a3,a4,a5,a6⟩:=k.k7;have d:=Zh g;have CU:=nG.o w1 g;go_enter func78,ntmps78;go_wp2_with fail;refine CU.mono ?_;rintro e w2 ⟨v,rfl,hv,ag⟩;obtain⟨p,rfl,i,l⟩:=pW (Fq:=Fq) hv (Qk Iw.o) (λb hb=>wM.o b (ZN d.o.size hb));have m:=Zh (az d.o ag);have n:=allDifferent_any p.ad p.cap p.xs w2 l.at' l.cap;have U1:=Zh l;rw[i]at n;have HX:=Zh i
  cases hap:di WN with
  |true =>
   have j:=Zh (by  rw[y.o,Zb hap]:R=WN)
   rw[hap]at n;obtain⟨ia,ic,ix⟩:=p;simp only at i;subst i;simp only[ah.val]at*;go_wp2_with fail;refine n.mono ?_;rintro e w3 ⟨rfl,a⟩;have a:=a.symm;subst a;go_wp2;go_ret;exact⟨⟨ia,ic,ix⟩,rfl,j.o.symm,U1.o,m.o⟩
  |false =>
   have j:Qn (R=[]):=Qb;rw[hap]at n;obtain⟨ia,ic,ix⟩:=p;simp only at i;subst i;simp only[ah.val]at*;go_wp2_with fail;refine n.mono ?_;rintro e w3 ⟨rfl,a⟩;have a:=a.symm;subst a;go_wp2;go_ret;exact⟨eG,rfl,j.o.symm,IntsIn.eG _ _,m.o⟩
def I9(q:ae)(o:ah)(w:U)(hk:q.keys.At w)(ho:o.At w)(hoc:N o.xs<=o.cap) :
  Cb 203 #[Qu q.cells,o.val] w (I J (bY q o.xs)):=by
 cases hg:q.group with
 |false =>
  have i:bY q o.xs=9:=by unfold bY;rw[Zb hg]
  rw[i];generalize o.val=ov;obtain⟨⟨k,sc,l⟩,m,n,p,group,⟨r,t,g⟩,⟨u,v,y⟩,⟨z,A,C⟩,⟨D,G,K⟩⟩:=q;simp only[ae.cells,ah.val]at*;subst hg;obtain⟨Q,L,a,d⟩:=bC w #[Z k (N l) sc,Z m (N p) n,Qr F,Z r (N g) t,Z u (N y) v,Z z (N C) A,Z D (N K) G] 26;obtain⟨a0,W,a2,a3,a4,a5,a6⟩:=d.k7;have b:=Zh a;go_enter func203,ntmps203;go_wp2;go_ret;exact⟨rfl,b.o⟩
 |true =>
  have i:bY q o.xs=if aO o.xs q.keys.xs=T then 8 else 7:=by unfold bY;rw[Zg (by rw[hg];decide)]
  rw[i];have S:Qn (∀x,Bw w x->Cb 161 #[Z o.ad (N o.xs) o.cap,Z q.keys.ad (N q.keys.xs) q.keys.cap] x (Qr (aO o.xs q.keys.xs))):=λx R=>iY o.ad q.keys.ad o.cap q.keys.cap o.xs q.keys.xs x (Q8 R ho) (Q8 R hk) hoc;obtain⟨ia,ic,ix⟩:=o;obtain⟨⟨k,sc,l⟩,m,n,p,group,⟨r,t,g⟩,⟨u,v,y⟩,⟨z,A,C⟩,⟨D,G,K⟩⟩:=q;simp only[ae.cells,ah.val]at*;subst hg;obtain⟨Q,L,a,d⟩:=bC w #[Z k (N l) sc,Z m (N p) n,Qr T,Z r (N g) t,Z u (N y) v,Z z (N C) A,Z D (N K) G] 26;obtain⟨a0,W,a2,a3,a4,a5,a6⟩:=d.k7;have b:=Zh a;have j:=S.o Q a;generalize aO ix g=B at*;go_enter func203,ntmps203;go_wp2_with fail;refine j.mono ?_;rintro e w2 ⟨rfl,P⟩;have f:=Zh (az b.o P)
  cases B with
  |true =>
   go_wp2;go_ret;exact⟨rfl,f.o⟩
  |false =>
   go_wp2;go_ret;exact⟨rfl,f.o⟩
def FI(A:Nat->Nat):Option (Nat × aP)->Qm
 |none=>Y Qs
 |some x=>Y (O (aD (A x.1) 0))
def nD:aj:=([],Qs)
structure aW(Tq Tp:TypeId)(Fq:Qz)(w:U)(gb:Nat)(A:Nat->Nat)(os:Qy ah)(g:Qy aj):Prop where
 blk:∃c,GB w gb Tp c/\∀i,i<N g->c[i*2]? = O (E os i eG).val/\c[i*2+1]? = O (FI A (E g i nD).2)
 ord:∀i,i<N g->(E os i eG).xs=(E g i nD).1/\IntsIn Fq w (E os i eG)/\(E os i eG).xs.length<=1000
 tree:∀p∈g,∀x,p.2=O x->aF Tq Fq w (A x.1) x.2
 inj:∀p∈g,∀p'∈g,∀x x',p.2=O x->p'.2=O x'->A x.1=A x'.1->x.1=x'.1
def aW.aV{Tq Tp:TypeId}{Fq:Qz}{w w':U}{gb:Nat}{A:Nat->Nat}{os:Qy ah}{g:Qy aj}(h:aW Tq Tp Fq w gb A os g)(hk:Kept (λb=>Fq b∨b=gb) w w'):aW Tq Tp Fq w' gb A os g:=by obtain⟨c,e,d⟩:=h.blk;have a:=hk.mono λb _ h=>.inl h;exact⟨⟨c,e.keep hk (.inr rfl),d⟩,λi d=>⟨(h.ord i d).1,(h.ord i d).2.1.aV a,(h.ord i d).2.2⟩,λp f x j=>(h.tree p f x j).aV a,h.inj⟩
def aW.below{Tq Tp:TypeId}{Fq:Qz}{w w':U}{gb:Nat}{A:Nat->Nat}{os:Qy ah}{g:Qy aj}(h:aW Tq Tp Fq w gb A os g)(hb:Bw w w'):aW Tq Tp Fq w' gb A os g:=h.aV (ZP hb λ_ h _=>h)
def aW.mono{Tq Tp:TypeId}{Fq G:Qz}{w:U}{gb:Nat}{A:Nat->Nat}{os:Qy ah}{g:Qy aj}(h:aW Tq Tp Fq w gb A os g)(hs:∀b,b<M (H w)->Fq b->G b):aW Tq Tp G w gb A os g:=
 ⟨h.blk,λi a=>⟨(h.ord i a).1,(h.ord i a).2.1.mono hs,(h.ord i a).2.2⟩,λp d x e=>(h.tree p d x e).mono hs,h.inj⟩
theorem aW.cells{Tp:TypeId}(h:aW Tq Tp Fq w gb A os g)(hi:i<N g) :
  Qp w (aD gb (i*2))=O (E os i eG).val/\Qp w (aD gb (i*2+1))=O (FI A (E g i nD).2):=by obtain⟨c,b,a⟩:=h.blk;exact⟨(b.cell _).trans (a i hi).1,(b.cell _).trans (a i hi).2⟩
def oK(hi:i<N g):E g i nD∈g:=by simp_all
def aF.blk(h:aF Tq Fq w a t):∃c,w.heap[a]? = O (Qt c Tq (0,0)):=by obtain⟨p,n,bo,bc,bs,b,_⟩:=h.get;exact⟨_,b.gb⟩
theorem gF{β:Type}(f:β->α->β)(b:β)(l:List α)(d:α)(hk:k<N l):(l.take (k+1)).foldl f b=f ((l.take k).foldl f b) (E l k d):=by grind [AV]
def Tryz.R9:(V.info? 141).map (λi=>i.size)=O 14:=Qd
theorem Tryz.infoTree:∃j,V.info? 141=O j/\j.size≠0:=by
 have h:=Tryz.R9
 cases hi:V.info? 141 with
 |none=>rw[hi]at h;cases h
 |some j =>
  grind
theorem FJ(ao:PN)(cap:Nat)(xs:Qy Nat)(v:Nat)(w:U)(hx:dh w ao xs)(hv:∃c t,w.heap[v]? = O (Qt c t (0,0)))(hxs:∀x∈xs,∃c t,w.heap[x]? = O (Qt c t (0,0))) :
  Calls V 204 #[Z ao (N xs) cap,Y (O (aD v 0))] w λe w'=>∃r:Int,e=Qv (I J r)/\Qn (0<=r↔v∈xs)/\w' = w:=by
 have P:=hx.1;have C:Qn (∀x∈xs,(binOp .eql 93 (Y (O (aD v 0))) (Y (O (aD x 0)))).run V w=.ok (Qr (decide (v=x))) w):=λx f=>by
  obtain⟨j,y,p⟩:=Tryz.infoTree;by_cases e:v=x
  .subst e;rw[run_eql_ptr_same w (aD v 0) underlying93 y];simp
  .obtain⟨Q,R,q⟩:=hv;obtain⟨S,W,u⟩:=hxs x f;rw[run_eql_ptr_other w underlying93 y p (by intro h;injection h with h;exact e h) q u];simp[e]
 have D:=Zh hx;clear hx hv hxs;go_enter func204,ntmps204;go_wp2;go_loop [8] (λi=>∃k:Nat,k<=N xs/\i=I J k/\Qn (v ∉ xs.take k)) (λi=>N xs-(intOf i).toNat)
 case atStart=>exact⟨0,ZB _,rfl,by show _ ∉ _;simp⟩
 case round=>
  obtain⟨k,hk,rfl,K⟩:=hrel;by_cases a:k<N xs
  .obtain⟨b,L,rfl,z⟩:=dh.get D.o a;have G:=z k a;have f:E xs k 0∈xs:=Xy a;have l:=C.o _ f;obtain⟨A,B⟩:=aS (Jf xs 0 a) f;obtain⟨x,g⟩:=eY (E xs k 0)
   rw[<-g]at G l A B;clear z f g;by_cases d:v=x
   .have m:=Zh d;rw[Zi d]at l;clear d;go_wp2;go_ret;exact⟨k,rfl,⟨λ_=>by rw[m.o];exact B.o,λ_=>X⟩,rfl⟩
   .have m:Qn _:=d;rw[Zr d]at l;clear d;go_wp2;go_round
    case rel=>exact⟨k+1,X,Qe,by
     show _ ∉ _;rw[A.o,Xk,Xj];rintro (h|h)
     .exact K.o h
     .exact m.o h⟩
    case measure=>exact XK
  .have e:N xs=k:=X
   have n:Qn (v ∉ xs):=by grind
   go_wp2;go_ret;exact⟨-1,rfl,⟨λh=>absurd h X,λh=>absurd h n.o⟩,rfl⟩
def zI(ao:PN)(cap:Nat)(xs:Qy Nat)(v:Nat)(w:U)(hx:dh w ao xs)(hv:∃c t,w.heap[v]? = O (Qt c t (0,0)))(hxs:∀x∈xs,∃c t,w.heap[x]? = O (Qt c t (0,0))) :
  Ce 186 #[Z ao (N xs) cap,Y (O (aD v 0))] w (Qr (decide (v∈xs))):=by have h:=FJ ao cap xs v w hx hv hxs;clear hx hv hxs;go_enter func186,ntmps186;go_wp2_with fail;refine h.mono ?_;clear h;rintro e b ⟨r,rfl,a,rfl⟩;go_wp2;go_ret;exact⟨QY (by rw[XU,Zf,Zf];exact a.o),rfl⟩
def pX(h:aW 141 161 Fq w gb A os g)(h0:0<N g)(gc:Nat) :
  Ce 183 #[Z (O (aD gb 0)) (N g) gc] w (FI A (E g 0 nD).2):=by obtain⟨-,a⟩:=h.cells h0;clear h;rw[Nat.zero_mul,ZC]at a;generalize FI A (E g 0 nD).2=pv at*;go_enter func183,ntmps183;go_wp2;go_ret;exact⟨rfl,rfl⟩
def Be(Ez:Env f ts q W0)(hz:Fz Fq W0 w)(a:Nat)(t:aP)(ht:aF 141 Fq w a t)(hto:iP q t)(o:ah)(ho:o.At w)(hof:nE Fq o.ad (N o.xs))(hon:o.ad=Qs->o.cap=0)(hoc:N o.xs<=o.cap)(hol:N o.xs<=1000) :
  Calls V 181 #[Qu (f.cells ts q),Y (O (aD a 0)),o.val] w (bN 141 Fq w (bK ts q t o.xs)):=by
 obtain⟨v0,A,B,v3,v4,v5,C,D,G,v9,i,j,k,K,-⟩:=XY f ts q;have Q:Qn (∀x b,Bw w x->Qp x (aD b 0)=O (Y (O (aD a 0)))->Calls V 76 #[Qu #[v0,A,B,v3,v4,v5,C,D,G,v9,i,j,k],Qu #[I J 6,I J 0,I J 0,I J 0,Z Qs 0 0,I J 0,o.val],Z (O (aD b 0)) 1 1] x (bN 141 Fq x (bK ts q t o.xs))):=λx b z hc=>by rw[<-K];exact ry Ez (hz.next z) ⟨6,0,0,0,eG,0,o⟩ ⟨gL x,nE.nil _ _,λ_=>rfl,Q8 z ho,hof,hon,hoc,ZB _,hol⟩ a b t (ht.below z) hto hc rfl (by decide:(2:Int)<=6) (by decide:(6:Int)<=10) (Jc _)
 rw[K];generalize bK ts q t o.xs=R at*;obtain⟨oa,oc,ox⟩:=o;simp only[ah.val]at*;obtain⟨L,W,n,p⟩:=bC w #[v0,A,B,v3,v4,v5,C,D,G,v9,i,j,k] 82;obtain⟨a0,a1,a2,a3,a4,a5,a6,a7,a8,a9,jq,jP,aa⟩:=p.k13;obtain⟨P,l⟩:=eX (L.alloc (Qt #[Y (O (aD a 0))] 93));have d:Bw w P:=az n (by rw[<-l];exact cZ _ _);have m:=Q.o P (M (H L)) d (by rw[<-l];simp);have g:=Zh d;go_enter func181,ntmps181;go_wp2_with fail;refine m.mono ?_;rintro e w3 ⟨r,rfl,hT,u,v,y⟩;have S:Qn (bN 141 Fq w R (Qv (Y (O (aD r 0)))) w3):=⟨r,rfl,hT,ZN g.o.size u,v,az g.o y⟩;go_wp2;go_ret;exact S.o
theorem wP(Ez:Env f ts q W0)(hz:Fz Fq W0 w)(a:Nat)(t:aP)(ht:aF 141 Fq w a t)(hto:iP q t)(c:Nat)(hc:c<2 ^ (N q.wh))(hal:a<M (H w)) :
  Calls V 77 #[Qu (f.cells ts q),Y (O (aD a 0)),I Qq (c:Int)] w λe w'=>∃r,e=Qv (Y (O (aD r 0)))/\aF 141 Fq w' r (bJ ts q t c)/\(r=a∨M (H w)<=r)/\r<M (H w')/\Bw w w':=by
 by_cases ag:c=0
 .subst ag;have HT:Qn (aF 141 Fq w a (bJ ts q t 0)):=by unfold bJ;rw[Zb rfl];exact ht
  generalize bJ ts q t 0=R at*;obtain⟨v0,v1,v2,v3,v4,v5,v6,v7,v8,v9,u,y,z,bZ,-⟩:=XY f ts q;rw[bZ];have V7:=Zh hal;obtain⟨w1,aa⟩:=eX (w.alloc (Qt #[v0,v1,v2,v3,v4,v5,v6,v7,v8,v9,u,y,z] 82));have g:Qn (Bw w w1):=by show Below _ _ _;rw[<-aa];exact cZ _ _
  go_enter func77,ntmps77;go_wp2;go_ret;exact⟨a,rfl,HT.o.below g.o,.inl rfl,Zy V7.o g.o.size,g.o⟩
 have hR:bJ ts q t c=au ts q (Ac (dw c)) [t]:=by unfold bJ;rw[Zg ag]
 have av:(((c:Nat):Int)==0)=false:=by grind
 rw[hR];have MK:c<18446744073709551616:=Zy hc (ZA (n:=2) X Ez.ok.mf);obtain⟨v0,v1,v2,v3,v4,v5,v6,v7,v8,v9,u,y,z,bZ,-⟩:=XY f ts q;have Cw:Qn (∀x,Calls V 100 #[I Qq (c:Int)] x λe w'=>∃v,e=Qv v/\w'.ownsRow (M (H x)) 3 1 v (N (dw c)) ((dw c).map (Value.int J))/\Bw x w'):=λx=>A7 c MK x;have Sc:Qn (N (dw c)<=64):=by show _<=_;unfold dw aR;grind
 have si:Qn (∀x b (k:ah),Bw w x->(k.xs=dw c/\k.At x/\nE Fq k.ad (N k.xs)/\(k.ad=Qs->k.cap=0))->Qp x (aD b 0)=O (Y (O (aD a 0)))->Calls V 76 #[Qu #[v0,v1,v2,v3,v4,v5,v6,v7,v8,v9,u,y,z],Qu #[I J 2,I J 0,I J 0,I J 0,k.val,I J 0,Z Qs 0 0],Z (O (aD b 0)) 1 1] x (bN 141 Fq x (au ts q (Ac (dw c)) [t]))):=λx b k hx W S=>by rw[<-bZ,<-W.1];exact ry Ez (hz.next hx) ⟨2,0,0,0,k,0,eG⟩ ⟨W.2.1,W.2.2.1,W.2.2.2,gL x,nE.nil _ _,λ_=>rfl,Za _,(by rw[W.1];have:=Sc.o;omega),ZB _⟩ a b t (ht.below hx) hto S rfl (by decide:(2:Int)<=2) (by decide:(2:Int)<=10) (by rw[W.1];exact pO hc)
 have wM:=Zh hz.high;rw[bZ];generalize au ts q (Ac (dw c)) [t]=R at*;generalize dw c=L at*;obtain⟨w1,aa,aj,ak⟩:=bC w #[v0,v1,v2,v3,v4,v5,v6,v7,v8,v9,u,y,z] 82;obtain⟨a0,a1,a2,a3,a4,a5,a6,a7,a8,a9,jq,jP,ax⟩:=ak.k13;have g:=Zh aj;go_enter func77,ntmps77;go_wp2_with fail;refine wH w1 λd=>?_;refine wA2 0 d ?_;refine O0 4 d ?_;refine wJ 2 5 (λK j=>?_) λK j=>?_
 .skip;go_simp;refine XX (Cw.o _) ?_;rintro e w4 ⟨v,rfl,hv,hb⟩;obtain⟨k,oW,l,m,i⟩:=mK hv (Qk Sc.o);obtain⟨la,lc,lx⟩:=k;simp only[ah.val]at oW l m i;subst l;subst oW;have A:=d.trans (hb.mono d.size);have V8:nE Fq la (N lx):=λ_ a' e=>wM.o _ (ZN g.o.size (ZN d.size (i.1 a' e)))
  refine j.o _ _ A λd=>?_;refine O0 3 d ?_;refine wR 5 λK j=>?_;go_simp;refine oA j d λd=>?_;have B:=cZ w4 (Qt #[Y (O (aD a 0))] 93);have C:=d.size;refine wR 6 λK j=>?_;go_simp;refine XX (si.o _ _ ⟨la,lc,lx⟩ (az g.o d) ⟨rfl,Q8 B m,V8,i.2.1⟩ Qa) ?_;rintro e D ⟨r,rfl,hT,G,P,Q⟩;refine oT j d Q λd=>?_;refine wR 7 λK j=>?_;go_simp;refine j.o _ _ d λd=>?_;refine wD ?_;try simp only[pV]
  have HP:Qn (∃p,Ending.returned (Y (O (aD r 0)))=Qv (Y (O (aD p 0)))/\aF 141 Fq D p R/\(p = a∨M (H w)<=p)/\p<M (H D)/\Bw w D):=⟨r,rfl,hT,.inr (ZN g.o.size (ZN C G)),P,az g.o d⟩;go_wp2;go_ret;exact HP.o
 .skip;go_simp;refine oA j d λd=>?_
  refine wR 2 λK j=>?_;go_simp;refine XX (Cw.o _) ?_;rintro e w4 ⟨v,rfl,hv,hb⟩;obtain⟨k,oW,l,m,i⟩:=mK hv (Qk Sc.o);obtain⟨la,lc,lx⟩:=k;simp only[ah.val]at oW l m i;subst l;subst oW;have A:=d.trans (hb.mono d.size);have V8:nE Fq la (N lx):=λ_ a' e=>wM.o _ (ZN g.o.size (ZN d.size (i.1 a' e)));have ai:=cB hb (show _=O (Value.pointer (O (aD a 0))) from (M8 (lT _ (Qt #[Y (O (aD a 0))] 93))));refine j.o _ _ A λd=>?_;have B:=Q9 (M (H w4)) w4;have C:=d.size;refine O0 3 d ?_;refine wR 6 λK j=>?_;go_simp;refine XX (si.o _ _ ⟨la,lc,lx⟩ (az g.o d) ⟨rfl,Q8 B m,V8,i.2.1⟩ (ai)) ?_;rintro e D ⟨r,rfl,hT,G,P,Q⟩;refine oT j d Q λd=>?_;refine wR 7 λK j=>?_;go_simp;refine j.o _ _ d λd=>?_;refine wD ?_;try simp only[pV]
  have HP:Qn (∃p,Ending.returned (Y (O (aD r 0)))=Qv (Y (O (aD p 0)))/\aF 141 Fq D p R/\(p = a∨M (H w)<=p)/\p<M (H D)/\Bw w D):=⟨r,rfl,hT,.inr (ZN g.o.size (ZN C G)),P,az g.o d⟩;go_wp2;go_ret;exact HP.o
theorem yn(n:ai):N n.list=7:=rfl
theorem su:∀(l:Qy ai) (i j:Nat) (v:Qm) (n:ai),i<N l->j<7->n.list=(E l i nz).list.set j v->(l.flatMap ai.list).set (i*7+j) v=(l.set i n).flatMap ai.list
 |[],i,_,_,_,h,_,_=>absurd h Qa
 |a::l,0,j,v,n,_,hj,e=>by rw[XE,QX,XE,Nat.zero_mul,ZC,List.set_append_left _ _ (by grind [yn]),e];rfl
 |a::l,i+1,j,v,n,h,hj,e=>by rw[XE,QW,XE,List.set_append_right _ _ (by grind [yn]),yn,show (i+1)*7+j-7=i*7+j by omega,su l i j v n (by simpa using h) hj e]
theorem zR(h:w.ownsRow base e sz v n xs){g:Nat}(hg:v.ownBlock=O g)(hj:j<n*sz)(u:Qm):(Qo w (aD g j) u).ownsRow base e sz v n (xs.set j u):=by
 refine⟨by rw[Jh];exact h.1,?_⟩;rcases h.2 with⟨rfl,_⟩|⟨g',cap,cur,rfl,hb,hh,hn,hm,hs,ht⟩
 .cases hg
 .cases hg
  refine .inr ⟨g',cap,cur.setIfInBounds j u,rfl,hb,GB.set (show GB w g' e cur from hh) j u,hn,hm,Qf,?_⟩;grind [List.take_set]
def Bb(h:w.ownsRow base e sz v n xs){g:Nat}(hg:v.ownBlock=O g)(j:Nat):w.frozen? (aD g j)=false:=by
 rcases h.2 with⟨rfl,_⟩|⟨g',cap,cur,rfl,hb,hh,_⟩
 .cases hg
 .cases hg
  exact Zm (show GB w g' e cur from hh) j
def Fx{w:U}{g j:Nat}(u:Qm):Kept (λb=>b≠g) w (Qo w (aD g j) u):=Xd _ _ _ (λh=>h rfl)
def IW(h:w.ownsRow base e 7 v m (ns.flatMap ai.list))(hi:i<N ns) :
  ∃g cap,v=Z (O (aD g 0)) m cap/\base<=g/\g<M (H w)/\∀j u,j<7->(E ns i nz).list[j]? = O u->Qp w (aD g (i*7+j))=O u:=by
 have d:N ns=m:=by have:=h.1;rw[jA ai.list 7 (λ_=>rfl)]at this;omega
 rcases XF h with⟨_,h1⟩|⟨g,cap,hv,hb,hlt,hc⟩
 .omega
 .exact⟨g,cap,hv,hb,hlt,λj u a b=>hc _ _ (by rw[XD ai.list 7 (λ_=>rfl) nz ns i j hi a];exact b)⟩
structure eU(Tn:TypeId)(Fq:Qz)(base:Nat)(w:U)(v:Qm)(nv:Qy ai):Prop where
 own:w.ownsRow base Tn 7 v (N nv) (nv.flatMap ai.list)
 blk:∀g,v.ownBlock=O g->Fq g
 lists:∀n∈nv,n.cl.At w/\nE Fq n.cl.ad (N n.cl.xs)/\n.co.At w/\nE Fq n.co.ad (N n.co.xs)/\N n.co.xs<=n.co.cap
def eU.aV{Tn:TypeId}{Fq:Qz}{base:Nat}{w w':U}{v:Qm}{nv:Qy ai}(h:eU Tn Fq base w v nv)(hk:Kept Fq w w'):eU Tn Fq base w' v nv:=
 ⟨Xf h.own hk h.blk,h.blk,λn g=>by
  obtain⟨d,a,e,b,f⟩:=h.lists n g;exact⟨XI d hk a,a,XI e hk b,b,f⟩⟩
def eU.below{Tn:TypeId}{Fq:Qz}{base:Nat}{w w':U}{v:Qm}{nv:Qy ai}(h:eU Tn Fq base w v nv)(hb:Bw w w'):eU Tn Fq base w' v nv:=h.aV (ZP hb λ_ h _=>h)
def eU.mono{Tn:TypeId}{Fq G:Qz}{base:Nat}{w:U}{v:Qm}{nv:Qy ai}(h:eU Tn Fq base w v nv)(hs:∀b,b<M (H w)->Fq b->G b):eU Tn G base w v nv:=
 ⟨h.own,λg e=>hs g (Xg h.own e).2 (h.blk g e),λn k=>by
  obtain⟨a,f,d,i,j⟩:=h.lists n k;exact⟨a,nE.mono a.2 f hs,d,nE.mono d.2 i hs,j⟩⟩
def iA(Tn:TypeId)(Fq:Qz)(w:U)(ns:Qy ai)(e:Ending)(w':U):Prop:=
 ∃v nv,e=Qv v/\nv.map dM=ns/\eU Tn Fq (M (H w)) w' v nv/\Bw w w'
def iM(a:Nat)(ns:Qy ai)(k:Nat):Qy ai:=(ns.take k).map (bO a)++ns.drop k
theorem IX(a:Nat)(ns:Qy ai)(k:Nat):N (iM a ns k)=N ns:=by grind [iM]
theorem IY(a:Nat)(hk:k<N ns):E (iM a ns k) k nz=E ns k nz:=by unfold iM;grind
theorem Fy(a:Nat)(hk:k<N ns):iM a ns (k+1)=(iM a ns k).set k (bO a (E ns k nz)):=by
 unfold iM;have b:N ((ns.take k).map (bO a))=k:=Qb;have d:ns.drop k=E ns k nz::ns.drop (k+1):=by simp_all
 rw[List.set_append_right _ _ X,b,Nat.sub_self,d,QX,Jf ns nz hk,Q5,X6];rfl
def VX(l:List α)(d:α)(hk:k<N l):l.set k (E l k d)=l:=by simp_all
def FD(a:Nat)(ns:Qy ai):iM a ns 0=ns:=Qi
theorem IZ(a:Nat)(ns:Qy ai):iM a ns (N ns)=ns.map (bO a):=by grind [iM]
def Ji:=@Fx
def aZ(s:Nat):Int:=(N (aR s):Int)
theorem uR(l r:Nat)(w:U) :
  Cb 97 #[Qu #[I Qq (l:Int),I Qq (r:Int)]] w (Qr (decide (r=0))):=by
 obtain⟨d,a⟩:=eX (w.alloc (Qt #[I Qq (l:Int),I Qq (r:Int)] 118));have b:Qn (Bw w d):=by show Below _ _ _;rw[<-a];exact cZ _ _
 have e:Qp d (aD (M (H w)) 1)=O (I Qq (r:Int)):=by rw[<-a];simp
 go_enter func97,ntmps97;go_wp2;go_ret;exact⟨QY Qb,b.o⟩
def Bn(a:Int)(w:U):Ce 169 #[I J a] w (Qr F):=by go_enter func169,ntmps169;go_wp2;go_ret;exact⟨QY Qa,rfl⟩
def Bo(a:Nat)(w:U):Ce 171 #[I Qq (a:Int)] w (Qr F):=by go_enter func171,ntmps171;go_wp2;go_ret;exact⟨QY Qa,rfl⟩
def FV(a b:Int)(w:U):Ce 124 #[I J a,I J b] w (I J (mZ a b)):=by
 have m:=Bn a w;have n:=Bn b w;have j:Qn (mZ a b=if a<b then -1 else if b<a then 1 else 0):=rfl;generalize mZ a b=R at*;go_enter func124,ntmps124;go_wp2_with fail;refine m.mono ?_;rintro e p ⟨rfl,d⟩;have d:=d.symm;subst d;go_wp2_with fail;refine n.mono ?_;rintro e p ⟨rfl,d⟩;have d:=d.symm;subst d;by_cases f:a<b
 .have i:=Zh (by  rw[j.o,Zb f]:R = -1)
  have l:=Zi f;go_wp2;go_ret;exact⟨QZ (by rw[i.o]),rfl⟩
 .by_cases g:b<a
  .have i:=Zh (by  rw[j.o,Zg f,Zb g]:R=1)
   have l:=Zr f;have k:=Zi g;go_wp2;go_ret;exact⟨QZ (by rw[i.o]),rfl⟩
  .have i:=Zh (by  rw[j.o,Zg f,Zg g]:R=0)
   have l:=Zr f;have k:=Zr g;go_wp2;go_ret;exact⟨QZ (by rw[i.o]),rfl⟩
def wZ(a b:Nat)(w:U):Ce 126 #[I Qq (a:Int),I Qq (b:Int)] w (I J (mZ (a:Int) (b:Int))):=by
 have m:=Bo a w;have n:=Bo b w;have j:Qn (mZ (a:Int) (b:Int)=if a<b then -1 else if b<a then 1 else 0):=by show _=_;unfold mZ;simp only[Int.ofNat_lt]
 generalize mZ (a:Int) (b:Int)=R at*;go_enter func126,ntmps126;go_wp2_with fail;refine m.mono ?_;rintro e p ⟨rfl,d⟩;have d:=d.symm;subst d;go_wp2_with fail;refine n.mono ?_;rintro e p ⟨rfl,d⟩;have d:=d.symm;subst d;by_cases f:a<b
 .have i:=Zh (by  rw[j.o,Zb f]:R = -1)
  have l:=Zi f;go_wp2;go_ret;exact⟨QZ (by rw[i.o]),rfl⟩
 .by_cases g:b<a
  .have i:=Zh (by  rw[j.o,Zg f,Zb g]:R=1)
   have l:=Zr f;have k:=Zi g;go_wp2;go_ret;exact⟨QZ (by rw[i.o]),rfl⟩
  .have i:=Zh (by  rw[j.o,Zg f,Zg g]:R=0)
   have l:=Zr f;have k:=Zr g;go_wp2;go_ret;exact⟨QZ (by rw[i.o]),rfl⟩
theorem abI(b:Nat)(x y z:Int)(w:U)(h0:Qp w (aD b 0)=O (I J x))(h1:Qp w (aD b 1)=O (I J y))(h2:Qp w (aD b 2)=O (I J z)) :
  Ce 123 #[Z (O (aD b 0)) 3 3] w (I J (if x≠0 then x else if y≠0 then y else z)):=by
 obtain⟨R,A⟩:=eY (if x≠0 then x else if y≠0 then y else z);rw[<-A];have q:=Zh A;clear A;obtain⟨L,n⟩:=eY ([x,y,z]:Qx);have D:Qn (∀k,k<3->Qp w (aD b k)=O (I J (E L k 0))):=λk p=>by
  rw[n]
  match k,p with
  |0,_=>exact h0
  |1,_=>exact h1
  |2,_=>exact h2
 have G:Qn (∀k,k<3->(∀j,j<k->E L j 0=0)->E L k 0≠0->E L k 0=R):=λk p a m=>by
  rw[q.o];rw[n]at a m ⊢
  match k,p with
  |0,_ =>
   grind
  |1,_ =>
   have l:x=0:=a 0 X;have m:y≠0:=m;show y=_;rw[Zg (not_not_intro l),Zb m]
  |2,_ =>
   have l:x=0:=a 0 X;grind
 have K:Qn ((∀j,j<3->E L j 0=0)->R=0):=λa=>by rw[n]at a;have l:x=0:=a 0 X;have P:y=0:=a 1 X;have Q:z=0:=a 2 X;rw[q.o,l,P,Q];simp
 clear h0 h1 h2 n q;go_enter func123,ntmps123;go_wp2;go_loop [8] (λi=>∃k:Nat,k<=3/\i=I J (k:Int)/\Qn (∀j,j<k->E L j 0=0)) (λi=>3-(intOf i).toNat)
 case atStart=>exact⟨0,X,rfl,λj a=>X⟩
 case round=>
  obtain⟨k,p,rfl,B⟩:=hrel;by_cases g:k<3
  .have S:=D.o k g;have e:=Zh (G.o k g B.o);obtain⟨v,C⟩:=eY (E L k 0)
   rw[<-C]at S e;have r:=Zh C;clear C;by_cases d:v=0
   .have t:=Zh d;have W:(v != 0)=false:=by simp[d]
    clear d;go_wp2;go_round
    case rel=>exact⟨k+1,X,Qe,λj a=>by
     rcases Nat.lt_or_eq_of_le (Nat.le_of_lt_succ a) with h|h
     .exact B.o j h
     .rw[h,<-r.o];exact t.o⟩
    case measure=>exact XK
   .have u:=Zh (e.o d);have W:(v != 0)=true:=by simp[d]
    clear e;go_wp2;go_ret;exact⟨QZ u.o,rfl⟩
  .have f:k=3:=X
   have HF:=Zh (K.o (by rw[<-f];exact B.o));clear f;go_wp2;go_ret;exact⟨QZ HF.o.symm,rfl⟩
def Kept.adv{s:Qz}(w:U):Kept s w w.drew:=ZP ((Q9 (M (H w)) w).drew) (λb a _=>a)
def SL(L:Qy ah)(R:Qy Qm):Array Value:=(L.map ah.val++R).toArray
theorem RY(xs:Qy Qm)(o:Nat)(u:Qm)(h:o<N xs):(xs.set o u).take (o+1)=xs.take o++[u]:=by rw[List.set_eq_take_append_cons_drop,Zb h];grind
def RZ(xs:Qy Qm)(o k:Nat)(u:Qm)(h:o<k):(xs.set o u).drop k=xs.drop k:=List.drop_set_of_lt h
theorem fF{base:Nat}{e:TypeId}{sz:Nat}{v:Qm}{n g:Nat}(hg:v.ownBlock=O g):∀(vs:Qy Qm) (o:Nat) {w:U} {xs:Qy Qm},w.ownsRow base e sz v n xs->o+N vs<=n*sz->
  (w.setCells g o vs).ownsRow base e sz v n (xs.take o++vs++xs.drop (o+N vs))
 |[],o,w,xs,h,_=>by simpa [World.setCells] using h
 |u::r,o,w,xs,h,hl=>by
  have d:=h.1;simp only[ZK]at hl;have a:=fF hg r (o+1) (zR h hg (j:=o) X u) X;rw[RY xs o u X,RZ xs o _ u X]at a;have b:xs.take o++u::r++xs.drop (o+N (u::r))=xs.take o++[u]++r++xs.drop (o+1+N r):=by grind
  rw[b];exact a
theorem Kept.setCells{s:Qz}{g:Nat}(hg:¬s g):∀(vs:Qy Qm) (o:Nat) (W:U),Kept s W (W.setCells g o vs)
 |[],_,W=>ZO _ W
 |u::r,o,W=>(Xd W (aD g o) u hg).trans (Kept.setCells hg r (o+1) (Qo W (aD g o) u))
theorem VY{g:Nat}(h:w.ownsRow base e sz (Z (O (aD g 0)) n cap) n xs)(hc:n+1<=cap):∃b,N b=sz/\w.ownsRow base e sz (Z (O (aD g 0)) (n+1) cap) (n+1) (xs++b):=by
 rcases h.2 with⟨h0,_⟩|⟨g',cap',cur,e1,hb,hh,hn,hm,hs,ht⟩
 .cases h0
 injection e1 with e1 _ e2;injection e1 with e1;injection e1 with e1;subst e1 e2;have i:(n+1)*sz<=cap*sz:=Nat.mul_le_mul_right _ hc;have d:(n+1)*sz=n*sz+sz:=Nat.succ_mul n sz;have f:N cur.toList=cap*sz:=X;have a:N ((cur.toList.drop (n*sz)).take sz)=sz:=Qb;refine⟨(cur.toList.drop (n*sz)).take sz,a,⟨Qb,.inr ⟨g,cap,cur,rfl,hb,hh,hc,hm,hs,?_⟩⟩⟩;rw[d,List.take_add,ht]
theorem abq{g:Nat}(h:w.ownsRow base e sz (Z (O (aD g 0)) n cap) n xs)(hm:m<=n):w.ownsRow base e sz (Z (O (aD g 0)) m cap) m (xs.take (m*sz)):=by
 rcases h.2 with⟨h0,_⟩|⟨g',cap',cur,e1,hb,hh,hn,hmx,hs,ht⟩
 .cases h0
 injection e1 with e1 _ e2;injection e1 with e1;injection e1 with e1;subst e1 e2;have a:m*sz<=n*sz:=Nat.mul_le_mul_right _ hm;refine⟨by rw[XT,h.1];omega,.inr ⟨g,cap,cur,rfl,hb,hh,X,hmx,hs,?_⟩⟩;grind
def jL{g:Nat}(h:w.ownsRow base e sz (Z (O (aD g 0)) n cap) n xs):n<=cap/\cap<=maxLen/\(∀j u,xs[j]? = O u->Qp w (aD g j)=O u)/\(∀j,j<cap*sz->(Qp w (aD g j)).isSome=T)/\(∀j,w.frozen? (aD g j)=F)/\w.shape? g=O (e,cap*sz)/\g<M (H w):=by
 rcases h.2 with⟨h0,_⟩|⟨g',cap',cur,e1,hb,hh,hn,hmx,hs,ht⟩
 .cases h0
 injection e1 with e1 _ e2;injection e1 with e1;injection e1 with e1;subst e1 e2;have b:=(ZV.1 hh).1;refine⟨hn,hmx,λj u a=>?_,λj a=>?_,λj=>?_,?_,b⟩
 .rw[<-ht,XG]at a;split at a
  .simp only[World.cell?,hh]
   simp_all
  .cases a
 .simp only[World.cell?,hh]
  simp_all
 .simp[World.frozen?,hh]
 .simp[World.shape?,hh,hs]
def sw(w:U)(dT sT ty elem:TypeId)(size b o dLen dCap:Nat)(a:Addr)(sLen sCap:Nat)(cs:Qy Qm)
  (hu:P.underlying dT=O (.slice elem)) (hs:(P.info? elem).map (·.size)=O size) (hn:N cs=Nat.min sLen dLen*size)
  (hsrc:∀j v,cs[j]? = O v->w.cell? (a.add j)=O v) (hc:∀j,j<N cs->(Qp w (aD b (o+j))).isSome=T) (hf:∀j,j<N cs->w.frozen? (aD b (o+j))=F) (h1:∀v∈cs,v.oneCell' = T) :
  (Builtin.copy_ #[dT,sT] ty #[Z (O (aD b o)) dLen dCap,Z (O a) sLen sCap]).run P w=.ok (goInt (Nat.min sLen dLen)) (w.setCells b o cs):=by
 have e:=run_loadCells_list (P:=P) w a cs hsrc;have d:=run_storeCells_cells (P:=P) b o cs 0 w X X h1
 cases hq:P.info? elem with
 |none=>simp_all
 |some i =>
  have f:i.size=size:=Qf;simp[Builtin.copy_,run_underlying hu,Builtin.lenOf,Builtin.firstCells,sizeOf,typeInfo,hq,f,<-hn,e,d]
def Nb(w:U)(t e ty:TypeId)(z:Qm)(ht:P.underlying t=O (.slice e))(hv:∀w,(zeroValue e).run P w=.ok z w)(zs:Qy Qm)(hz:(Builtin.zeroCells z.cells 1).toList=zs)(h1:∀v∈zs,v.oneCell' = T)(b o c:Nat)
  (hc:∀j,j<N zs->(Qp w (aD b (o+j))).isSome=T) (hf:∀j,j<N zs->w.frozen? (aD b (o+j))=F) :
  (Builtin.clear_ #[t] ty #[.slice (O (aD b o)) 1 c]).run P w=.ok (.tuple #[]) (w.setCells b o zs):=by have a:=run_storeCells_cells (P:=P) b o zs 0 w X X h1;simp only[XH]at a;simp[Builtin.clear_,run_underlying ht,hv,hz,a]
