import Derived.Test.YtpcfbajdeipgbaaGreatDoorX05
import Derived.Test.YtpcfbajdeipgbaaGreatDoorX06
set_option linter.all false
set_option maxRecDepth 100000
set_option maxHeartbeats 0
namespace Go.Proofs.Zz
open Go.RowKit Go.Shelf
open List renaming length->N,getD->E
open Go.Value renaming slice->Z,int->I,pointer->Y,bool->EP,agg->FN
open Go.Proofs.Tryz renaming prog->V
open Option renaming some->O,none->E5
open Go.IntKind renaming i64->J,u64->Dc
open Bool renaming false->F,true->T
open Go renaming World->U,Value->KX
open Go.World renaming heap->H,setCell->qw,cell?->Am
open _root_.Array renaming size->M
open Go.RowKit renaming Hid->Wl
open Go.Obj renaming cells->FL
open Go.Ending renaming returned->FR
variable {cs:List aF} {B b base i k m n n' sz:Nat} {l:List Int} {e t:TypeId} {a0 a1 v v':KX} {xs xs':List KX} {W:U} {pl:List ai}
def Al(n:Nat)(hn:n<=64)(w:U) :
  Ce 48 #[I J (n:Int)] w (I Dc ((2 ^ n-1:Nat):Int)):=by
 rcases XM n 64 with h|h
 .exact Rc n h w
 .obtain rfl:n=64:=by omega
  go_enter Tryz.func48,Tryz.ntmps48;go_wp2;go_ret;exact⟨rfl,rfl⟩
def adz(ao:Option Addr)(cap:Nat)(ts:List ag)(q:af)(w:U)(hx:aN w ao ts)(hq:q.At w)(hc:dL ts=T)
  (hf:5<N q.src.xs∨8<N q.wh∨8<N q.aH.xs∨4<N q.keys.xs∨4<N q.sums.xs∨4<N q.ord.xs) :
  Cb 35 #[Z ao (N ts) cap,FN q.cells] w (I J (q.check ts)):=by
 have A:Wl ((2:Int)=q.check ts):=af.Aw hc (aek (by simpa [af.qX] using hf));have p:=λo=>hx.below (bJ w o);have r:=hq.wh.1;generalize q.check ts=R at*;clear hq;obtain⟨src,G,K,b,u,a,d,n,v⟩:=q;simp only at hf r;unfold af.cells ae.val;simp only;have g:(5<N src.xs)∨(¬5<N src.xs/\8<N b)∨(¬5<N src.xs/\¬8<N b/\8<N n.xs)∨(¬5<N src.xs/\¬8<N b/\¬8<N n.xs/\4<N a.xs)∨
   (¬5<N src.xs/\¬8<N b/\¬8<N n.xs/\¬4<N a.xs/\4<N d.xs)∨(¬5<N src.xs/\¬8<N b/\¬8<N n.xs/\¬4<N a.xs/\¬4<N d.xs/\4<N v.xs):=by omega
 clear hf;rcases g with l|⟨l,m⟩|⟨l,m,t⟩|⟨l,m,t,y⟩|⟨l,m,t,y,B⟩|⟨l,m,t,y,B,D⟩
 all_goals
  go_enter Tryz.func35,Tryz.ntmps35;go_wp2_with (go_at_call 65;refine(pW _ _ _ _ (p _)).mono ?_;rw[hc];rintro e L ⟨rfl,z⟩;have j:=wZ z;simp at j);go_loop [6,7] (λf i=>∃k:Nat,k<=N b/\i=I J k/\f=EP T) (λ_ i=>N b-(intOf i).toNat)
  case atStart=>exact⟨0,Q4 _,rfl,by first|rfl|exact uG (by simp;omega)⟩
  case round=>
   obtain⟨k,P,rfl,rfl⟩:=hrel;by_cases C:k<N b
   .go_wp2;go_round
    case rel=>exact⟨k+1,by omega,by go_num,rfl⟩
    case measure=>simp[intOf];omega
   .go_wp2;go_ret;exact⟨Qe A.o,aj (bJ _ _) z⟩
def Ox(ts:List ag)(q:af)(hk:k<N cs):aZ (nS ts q (aG (cs.take (k+1))))=aZ (nS ts q (aG (cs.take k)))|||aZ (nS ts q (aL (E cs k cz))):=by rw[z8 hk];unfold nS;rw[Ql,EG]
def Oy{c:Int}(h:c∈aG (cs.take k)):c∈aG cs:=by obtain⟨x,a,b⟩:=QO.1 h;exact QO.2 ⟨x,XC a,b⟩
def Oz(f:bq)(ts:List ag)(q:af)(ca:Option Addr)(cc:Nat)(cs:List aF)(w:U)(ok:Ok ts q)(hf:jL w f.ca (iL ts q))(hx:bS w ca cs)(fJ:uU ts q (aG cs)) :
  Cb 49 #[FN (f.cells ts q),FN #[Z ca (N cs) cc]] w (I Dc ((aZ (fP ts q.src.xs cs):Nat):Int)):=by
 obtain⟨v0,v1,v2,v3,v4,v5,v6,v7,v8,v9,au,av,ax,dY,-⟩:=Jf f ts q;obtain⟨w1,ay,az,A⟩:=aX w ((f.cells ts q)) 63;obtain⟨w2,aO,aB,aC⟩:=aX w1 #[Z ca (N cs) cc] 88;have z:=aB;have p:=aj az z;have fG:=A.of (z.block _ A.lt);have jA:=aC;have jr:=jA.at 0;obtain⟨dM,dX,dQ,dR,eu,eU,eH,gq,gm,gp,bY,dw,bZ⟩:=fG.zR (by rw[dY];rfl);have Dg:=Zh ((hx.below p).2);have uD:Wl (∀x d n k,k<N cs->Bw w2 x->aA x d (aL (E cs k cz))->Calls V 96 #[FN (f.cells ts q),Z d (N (aL (E cs k cz))) n] x λe w'=>e=FR (I Dc ((aZ (nS ts q (aL (E cs k cz))):Nat):Int))/\Bw x w'):=
  λx d n k y hb h=>Ad f ts q d n _ x ok (hf.below (aj p hb)) h (λc B=>fJ c (QO.2 ⟨_,Xx y,B⟩))
 have C:Wl (∀x c,_):=λx c=>xq c x;have D:Wl (∀k,k<N cs->aZ (nS ts q (aG (cs.take (k+1))))=aZ (nS ts q (aG (cs.take k)))|||aZ (nS ts q (aL (E cs k cz)))):=λk y=>Ox ts q y;have vH:Wl (∀k,aZ (nS ts q (aG (cs.take k)))<18446744073709551616):=λk=>(Ba ok (λc B=>fJ c (Oy B))).lt ok.small;have G:Wl (∀k,k<N cs->aZ (nS ts q (aL (E cs k cz)))<18446744073709551616):=λk y=>(Ba ok (λc B=>fJ c (QO.2 ⟨_,Xx y,B⟩))).lt ok.small;have ET:Wl (aZ (nS ts q (aG (cs.take (N cs))))=aZ (fP ts q.src.xs cs)):=by show _=_;rw[Zb];rfl
 have Mc:Wl (aZ (nS ts q (aG (cs.take 0)))=0):=rfl;have aN:=hx.1;have HC:=Zh p;obtain⟨l,g⟩:∃l:Nat->Nat,l=λk=>aZ (nS ts q (aG (cs.take k))):=⟨_,rfl⟩;obtain⟨v,t⟩:∃v:aF->Nat,v=λc=>aZ (nS ts q (aL c)):=⟨_,rfl⟩;have L:Wl (∀k,k<N cs->l (k+1)=l k|||v (E cs k cz)):=by rw[g,t];exact D.o
 have P:Wl (∀k,l k<18446744073709551616):=by rw[g];exact vH.o
 have Q:Wl (∀k,k<N cs->v (E cs k cz)<18446744073709551616):=by rw[t];exact G.o
 have S:Wl (l (N cs)=aZ (fP ts q.src.xs cs)):=by rw[g];exact ET.o
 have W:Wl (l 0=0):=by rw[g];exact Mc.o
 have X:Wl (∀x d n k,k<N cs->Bw w2 x->aA x d (aL (E cs k cz))->Cb 96 #[FN #[v0,v1,v2,v3,v4,v5,v6,v7,v8,v9,au,av,ax],Z d (N (aL (E cs k cz))) n] x (I Dc ((v (E cs k cz):Nat):Int))):=by rw[t,<-dY];exact uD.o
 rw[dY]at ay ⊢;generalize aZ (fP ts q.src.xs cs)=R at*;go_enter Tryz.func49,Tryz.ntmps49;go_wp2;go_loopw [5,11] (λsv iv wr=>∃k:Nat,k<=N cs/\iv=I J k/\(∃s:Nat,sv=I Dc (s:Int)/\Wl (s=l k))/\Bw w2 wr) (λ_ iv _=>N cs-(intOf iv).toNat)
 case atStart=>exact⟨0,Q4 _,rfl,⟨0,rfl,W.o.symm⟩,Qr _ _⟩
 case round=>
  obtain⟨k,y,rfl,⟨s,rfl,hs⟩,u⟩:=hrel;by_cases j:k<N cs
  .obtain⟨cb,co,rfl,c0,c1,c2,c3,c4⟩:=Dg.o k j;obtain⟨d0,d1,d2,d3,d4⟩:=ji u c0 c1 c2 c3 c4;have HT:=Zh (L.o k j);have aa:s<18446744073709551616:=by rw[hs.o];exact P.o k
   have ae:=Q.o k j;have ah:Wl (∀x d n,_->_->_):=λx d n hb h=>X.o x d n k j hb h;rw[<-hs.o]at HT;generalize E cs k cz=c at*;have ai:=λx=>C.o x c;generalize v c=m at*;generalize aL c=CC at*;obtain⟨wb,aP,aD,aH⟩:=aX wr #[EP c.not,I J c.op,I J c.left,EP c.const,I J c.right] 90;obtain⟨b0,b1,b2,b3,b4⟩:=aH.k5;have r:=aj u aD;obtain⟨j0,j1,j2,j3,j4,j5,j6,j7⟩:=qf r dM dX dQ dR eu eU eH gq;obtain⟨j8,j9,aQ,aR,aS⟩:=ji r gm gp bY dw bZ;have Kg:=Zh r;obtain⟨aT,aU,aI,aW,aY⟩:=c;unfold aF.val at*;simp only at*;go_wp2;refine wH wb λa=>?_;refine wA3 0 a ?_;refine wR 3 λK i=>?_;go_simp;refine XO (ai _) ?_;rintro e w3 ⟨b,rfl,aJ,aK⟩;refine oT i a aK λa=>?_;refine wR 4 λK i=>?_;go_simp;refine XO (ah.o _ _ _ (aj Kg.o a) aJ) ?_;rintro e w4 ⟨rfl,aM⟩;refine oT i a aM λa=>?_;refine wR 5 λK i=>?_;go_simp;refine oA i a λa=>?_;refine wR 6 λK i=>?_;go_simp;refine XO (zi (M (H w4)) s m _ (by simp) (by simp) aa ae) ?_;rintro e w5 ⟨rfl,rfl⟩;refine i.o _ _ a λa=>?_;refine wR 7 λK i=>?_;go_simp;refine i.o _ _ a λa=>?_;refine wD ?_;try simp only[pU]
   have ak:=Zh (aj Kg.o a);go_wp2;go_roundw
   case rel=>exact⟨k+1,by omega,by go_num,⟨s|||m,rfl,HT.o.symm⟩,ak.o⟩
   case measure=>simp[intOf];omega
  .obtain rfl:k=N cs:=by omega
   obtain⟨HV,HB⟩:=aV (hs.o.trans S.o) (aj HC.o u);go_wp2;go_ret;exact⟨Qe (by rw[HV.o]),HB.o⟩
def mI(ts:List ag)(q:af)(l:List Int):Nat:=(l.map λc=>(fD ts q.src.xs c).toNat).foldl max 0
def Fb(ts:List ag)(q:af)(hk:k<N l):mI ts q (l.take (k+1))=max (mI ts q (l.take k)) (fD ts q.src.xs (E l k 0)).toNat:=by
 have e:E l k 0=l[k]:=by simp[List.getD,hk]
 unfold mI;rw[Qh hk,Ql,Zv,e];rfl
theorem Wz(ts:List ag)(q:af){cs:List aF}(h1:¬1<N cs)(h0:0<N cs)(hn:(E cs 0 cz).not=F)(h2:(E cs 0 cz).op≠1)(h3:(E cs 0 cz).op≠2):dN ts q.src.xs cs=mI ts q (aL (E cs 0 cz)):=by unfold dN mI aL;grind
def acN{ts:List ag}{q:af}(ok:Ok ts q)(h:uU ts q l)(k:Nat):mI ts q (l.take k)<=1000000:=by
 induction k with
 |zero=>simp[mI]
 |succ k ih =>
  by_cases a:k<N l
  .rw[Fb ts q a];obtain⟨b,e⟩:=h _ (Xx a (d:=0));have:=(yj ok.cat ok.src b e).2;omega
  .rw[Xt (by omega)];rw[Xt (by omega)]at ih;exact ih
theorem WA(f:bq)(ts:List ag)(q:af)(ca:Option Addr)(cc:Nat)(cs:List aF)(w:U)(ok:Ok ts q)(hf:jL w f.ca (iL ts q))(hx:bS w ca cs)(h0:0<N cs)(fJ:uU ts q (aG cs)) :
  Cb 50 #[FN (f.cells ts q),FN #[Z ca (N cs) cc]] w (I Dc ((dN ts q.src.xs cs:Nat):Int)):=by
 obtain⟨cb,co,rfl,c0,c1,c2,c3,c4⟩:=hx.2 0 h0;have aQ:=hx.1;rw[XI,Zp]at c0 c1 c2 c3 c4;have G:uU ts q (aL (E cs 0 cz)):=λc hc=>fJ c (QO.2 ⟨_,Xx h0,hc⟩);have j:Wl _:=@Wz ts q cs;have p:Wl (dN ts q.src.xs cs=if (N cs)≠1∨(E cs 0 cz).not=T then 2 else if (E cs 0 cz).op=1 then 3 else if (E cs 0 cz).op=2 then 10 else dN ts q.src.xs cs):=by
  show _=_;unfold dN
  repeat' split
  all_goals rfl
 generalize dN ts q.src.xs cs=R at*;generalize E cs 0 cz=c at*;obtain⟨b,g,left,a,right⟩:=c;simp only at*;obtain⟨w1,aM,ak,au⟩:=aX w ((f.cells ts q)) 63;obtain⟨Q,aN,S,av⟩:=aX w1 #[Z (O (aD cb co)) (N cs) cc] 88;obtain⟨w3,aO,A,m⟩:=aX Q #[EP b,I J g,I J left,EP a,I J right] 90;have K:=aj ak S;have L:=aj K A;have aa:=aj S A;obtain⟨d0,d1,d2,d3,d4⟩:=ji K c0 c1 c2 c3 c4;have m0:Am Q (aD (M (H w1)) 0)=O (Z (O (aD cb co)) (N cs) cc):=av.cell 0;have aA:=cB A m0;have b0:Am w3 (aD (M (H Q)) 0)=O (EP b):=m.cell 0;have b1:Am w3 (aD (M (H Q)) 1)=O (I J g):=m.cell 1;have b2:Am w3 (aD (M (H Q)) 2)=O (I J left):=m.cell 2;have b3:Am w3 (aD (M (H Q)) 3)=O (EP a):=m.cell 3;have b4:Am w3 (aD (M (H Q)) 4)=O (I J right):=m.cell 4;have q7:Am w1 (aD (M (H w)) 7)=O (Z f.ca (N (iL ts q)) f.cc):=au.cell 7;have ae:=cB aa q7;have W:Wl _:=L;have X:Wl _:=hf.below L;have aR:=hf.1;have i:=xq ⟨b,g,left,a,right⟩ w3;unfold aF.val at i;simp only at i;have r:Wl (∀k,k<N (aL ⟨b,g,left,a,right⟩)->∃n kd:Nat,E (aL ⟨b,g,left,a,right⟩) k 0=n/\n<N (iL ts q)/\(E (iL ts q) n (0,0)).2=(kd:Int)/\kd=(fD ts q.src.xs (E (aL ⟨b,g,left,a,right⟩) k 0)).toNat/\kd<=1000000):=λk hk=>by obtain⟨h0,h1⟩:=G _ (Xx hk (d:=0));have h2:=DV ok;have h3:=yj ok.cat ok.src h0 h1;refine⟨(E (aL ⟨b,g,left,a,right⟩) k 0).toNat,(fD ts q.src.xs (E (aL ⟨b,g,left,a,right⟩) k 0)).toNat,by omega,by omega,?_,rfl,by omega⟩;have e:(E (iL ts q) (E (aL ⟨b,g,left,a,right⟩) k 0).toNat (0,0)).2=fD ts q.src.xs (E (aL ⟨b,g,left,a,right⟩) k 0):=rfl;rw[e];omega
 have ah:Wl (∀k,k<N (aL ⟨b,g,left,a,right⟩)->mI ts q ((aL ⟨b,g,left,a,right⟩).take (k+1))=max (mI ts q ((aL ⟨b,g,left,a,right⟩).take k)) (fD ts q.src.xs (E (aL ⟨b,g,left,a,right⟩) k 0)).toNat):=λk hk=>Fb ts q hk;have ai:Wl (∀k,mI ts q ((aL ⟨b,g,left,a,right⟩).take k)<=1000000):=λk=>acN ok G k;have O9:Wl (mI ts q ((aL ⟨b,g,left,a,right⟩).take (N (aL ⟨b,g,left,a,right⟩)))=mI ts q (aL ⟨b,g,left,a,right⟩)):=by show _=_;rw[Zb]
 have zz:Wl (mI ts q ((aL ⟨b,g,left,a,right⟩).take 0)=0):=rfl;have aB:Wl (N (aL ⟨b,g,left,a,right⟩)<=2):=BZ _;generalize aL ⟨b,g,left,a,right⟩=CC at*;generalize f.cells ts q=FC at*;obtain⟨D,y⟩:∃D:Nat->Nat,D=λk=>mI ts q (CC.take k):=⟨_,rfl⟩;have t:Wl (∀k,k<N CC->D (k+1)=max (D k) (fD ts q.src.xs (E CC k 0)).toNat):=by rw[y];exact ah.o
 have u:Wl (∀k,D k<=1000000):=by rw[y];exact ai.o
 have l:Wl (D (N CC)=mI ts q CC):=by rw[y];exact O9.o
 have z:Wl (D 0=0):=by rw[y];exact zz.o
 clear y ah ai O9 zz c0 c1 c2 c3 c4 ak S A K L aa au av m hf hx fJ G ok;by_cases h1:1<N cs
 .have v:Wl (R=2):=by grind
  clear p j r t u l z X i;go_enter Tryz.func50,Tryz.ntmps50;go_wp2;go_ret;exact⟨Qe (by rw[v.o];rfl),W.o⟩
 cases b with
 |true =>
  have v:Wl (R=2):=by grind
  clear p j r t u l z X i;go_enter Tryz.func50,Tryz.ntmps50;go_wp2;go_ret;exact⟨Qe (by rw[v.o];rfl),W.o⟩
 |false =>
  have P:¬(N cs≠1∨F=T):=by grind
  by_cases o1:g=1
  .have v:Wl (R=3):=by grind
   subst o1;clear p j r t u l z X i P;go_enter Tryz.func50,Tryz.ntmps50;go_wp2;go_ret;exact⟨Qe (by rw[v.o];rfl),W.o⟩
  by_cases o2:g=2
  .have v:Wl (R=10):=by grind
   subst o2;clear p j r t u l z X i P;go_enter Tryz.func50,Tryz.ntmps50;go_wp2;go_ret;exact⟨Qe (by rw[v.o];rfl),W.o⟩
  have v:Wl (R=mI ts q CC):=j.o h1 h0 rfl o1 o2;have aS:(g==1)=false:=by simp[o1]
  have aT:(g==2)=false:=by simp[o2]
  rw[<-l.o]at v;clear p j P o1 o2 l;generalize fD ts q.src.xs=KN at*;generalize iL ts q=CS at*;go_enter Tryz.func50,Tryz.ntmps50;go_wp2_with fail;refine i.mono ?_;clear i aM aN aO;rintro e w4 ⟨xb,rfl,ax,B⟩;have aC:=cB B ae;have aH:Wl _:=aj W.o B;have aI:Wl (jL w4 f.ca CS):=jL.below B X.o;have aJ:Wl _:=ax;have aU:=aB.o;clear B ax X W m0 aA b0 b1 b2 b3 b4 q7 ae d0 d1 d2 d3 d4;go_wp2;go_loop [6,30] (λsv iv=>∃k:Nat,k<=N CC/\iv=I J k/\(∃s:Nat,sv=I Dc (s:Int)/\Wl (s=D k))) (λ_ iv=>N CC-(intOf iv).toNat)
  case atStart=>grind
  case round=>
   obtain⟨k,hk,rfl,⟨s,rfl,hs⟩⟩:=hrel;by_cases C:k<N CC
   .obtain⟨bf,xo,e,qK⟩:=Qg aJ.o C
    cases e;have aK:=qK k C;obtain⟨n,kd,hn,aP,ay,az,bg⟩:=r.o k C;have HT:Wl _:=t.o k C;have aV:s<=1000000:=by rw[hs.o];exact u.o k
    obtain⟨yb,yo,Md,_,y1⟩:=(show jL w4 f.ca CS from aI.o).2 n aP;rw[Md]at aC;rw[hn,Q5]at aK;rw[ay]at y1;rw[<-hs.o,<-az]at HT;clear qK Md ay hs az hn;generalize KN (E CC k 0)=kk at*;have aW:max (s:Int) (kd:Int)=((max s kd:Nat):Int):=by omega
    have aY:(if (s:Int)<(kd:Int) then (kd:Int) else (s:Int))=((max s kd:Nat):Int):=by split <;> omega
    have aZ:(if (kd:Int)<(s:Int) then (s:Int) else (kd:Int))=((max s kd:Nat):Int):=by split <;> omega
    go_wp2;go_round
    case rel=>grind
    case measure=>simp[intOf];omega
   .obtain rfl:k=N CC:=by omega
    have FU:Wl (s=R):=by show _=_;rw[hs.o,v.o]
    clear hs v;go_wp2;go_ret;exact⟨Qe (by rw[FU.o]),aH.o⟩
def Bn(h:W.ownsRow base e sz v n xs)(hb:v.ownBlock=O b):∃a,W.heap[b]? = O (FL a e (0,0)):=by
 rcases h.2 with⟨rfl,_⟩|⟨g,cap,a,rfl,_,h3,_⟩
 .cases hb
 .cases hb
  simp_all
def rE(ht:e≠t)(h:W.ownsRow base e sz v n xs){c:Array KX}(hg:GB W b t c):v.ownBlock≠O b:=λd=>by obtain⟨a,f⟩:=Bn h d;unfold GB at hg;simp_all
def Cz(ht:e≠t){base' sz':Nat}(h:W.ownsRow base e sz v n xs)(h':W.ownsRow base' t sz' v' n' xs')(hb:v.ownBlock=O b):v'.ownBlock≠O b:=λa=>by obtain⟨f,i⟩:=Bn h hb;obtain⟨d,g⟩:=Bn h' a;simp_all
theorem CE{w5:U}{bf:Nat}{tF:TypeId}(ht:e≠tF){cells:Array KX}(hg:GB W bf tF cells)(ho:W.ownsRow base e sz v n xs)(mq:w5.ownsRow base e sz v' n' xs')(hk:Kept (λb=>v.ownBlock≠O b) W w5)
  (hat:v'.ownBlock=v.ownBlock∨v'.ownBlock=O (M (H W)+1)) (i:Nat) :
  GB w5 bf tF cells/\GB (qw w5 (aD bf i) v') bf tF (cells.setIfInBounds i v')/\(qw w5 (aD bf i) v').ownsRow base e sz v' n' xs'/\Kept (λb=>b≠bf/\v.ownBlock≠O b) W (qw w5 (aD bf i) v'):=by
 have f:=rE ht ho hg;have a:=hg.keep hk f;have k:=hg.lt;have d:v'.ownBlock≠O bf:=λe=>by grind
 refine⟨a,a.set i v',?_,(hk.mono λ_ _ h=>h.2).trans (Xc _ _ _ (λh=>h.1 rfl))⟩;exact Xe mq (s:=λb=>b≠bf) (Xc _ _ _ (λh=>h rfl)) (λg j e=>d (by rw[j,e]))
def acP(ts:List ag)(src:List Int)(k m:Nat):(bV ts src k++((List.range (m+1)).map λm=>(k,(E ts (E src k 0).toNat tz).kd m))).flatMap jZ=(bV ts src k++((List.range m).map λm=>(k,(E ts (E src k 0).toNat tz).kd m))).flatMap jZ++jZ (k,(E ts (E src k 0).toNat tz).kd m):=by rw[QT,Ql,<-Zu,Q7];simp
def qN(ts:List ag)(src:List Int)(k:Nat):List Nat:=(List.range k).map λ(k:Nat)=>iO ts src (k:Int)
theorem Tp(ts:List ag)(src:List Int)(k:Nat):qN ts src (k+1)=qN ts src k++[iO ts src (k:Int)]:=by grind [qN,List.range_succ]
theorem sF(ts:List ag)(src:List Int)(k:Nat):N (qN ts src k)=k:=by grind [qN]
theorem Ed{ts:List ag}{src:List Int}(hc:dL ts=T)(ha:aM src (N ts)=T)(h:N src<=64):∀k,k<=N src->N (bV ts src k)<=4*k
 |0,_=>by simp[bV]
 |k+1,hk=>by have ih:=Ed hc ha h k (by omega);rw[jC,QI,Q8,Q9];obtain⟨h0,h1⟩:=yl ha (k:=k) (by omega);have ht:=yh hc (i:=(E src k 0).toNat) (by omega);unfold dJ at ht;grind
def Tryz.ajG:(V.info? 114).map (λi=>(i.zero,i.size,i.bytes))=O (O (FN #[I J 0,I Dc 0]),2,16):=by kernel_rfl
def Tryz.ajH:(V.info? 72).map (λi=>(i.zero,i.size,i.bytes))=O (O (I Dc 0),1,8):=by kernel_rfl
def Tryz.ajI:(V.info? 59).map (λi=>(i.zero,i.size,i.bytes))=O (O (I Dc 0),1,8):=by kernel_rfl
def Tryz.aaf:114≠63:=by decide
def Tryz.Tt:72≠63:=by decide
def Tryz.alz:59≠63:=by decide
def Tryz.alA:114≠72:=by decide
def Tryz.alB:59≠72:=by decide
def Tryz.ar7:114≠53:=by decide
def Tu(W:U)(base:Nat)(v:KX)(xs:List Nat)(hown:W.ownsRow base 72 1 v (N xs) (xs.map λ(x:Nat)=>I Dc (x:Int)))(hl:N xs<=1000)(hb:base<=M (H W))(x:Nat)(ty:TypeId) :
  ∃d e,(Builtin.append_ #[60,60] ty #[v,Z (O (aD (M (H W)) 0)) 1 1]).run V (W.alloc (FL #[I Dc (x:Int)] 72))=.ok d e/\
   e.ownsRow base 72 1 d (N (xs++[x])) ((xs++[x]).map λ(x:Nat)=>.int Dc (x:Int))/\Kept (λb=>v.ownBlock≠O b) W e/\(∃a m c,d = .slice a m c)/\(d.ownBlock=v.ownBlock∨d.ownBlock=O (M (H W)+1)):=by obtain⟨l,n,f,g,i⟩:=Xk Tryz.ajH;obtain⟨d,e,p,q,r,t,j⟩:=yf (P:=V) W base 60 ty 72 l (.int Dc 0) 1 8 Tryz.underlying60 n f g i rfl (by decide) v (N xs) _ hown hb [.int Dc (x:Int)] rfl (λu k=>by rw[Xj]at k;rw[k];rfl) hl (by decide);exact⟨d,e,p,by rw[QI,Ql];exact q,r,t,j⟩
def agJ(W:U)(base:Nat)(v:KX)(xs:List Nat)(hown:W.ownsRow base 59 1 v (N xs) (xs.map λ(x:Nat)=>I Dc (x:Int)))(hl:N xs<=1000)(hb:base<=M (H W))(x:Nat)(ty:TypeId) :
  ∃d e,(Builtin.append_ #[61,61] ty #[v,Z (O (aD (M (H W)) 0)) 1 1]).run V (W.alloc (FL #[I Dc (x:Int)] 59))=.ok d e/\
   e.ownsRow base 59 1 d (N (xs++[x])) ((xs++[x]).map λ(x:Nat)=>.int Dc (x:Int))/\Kept (λb=>v.ownBlock≠O b) W e/\(∃a m c,d = .slice a m c)/\(d.ownBlock=v.ownBlock∨d.ownBlock=O (M (H W)+1)):=by obtain⟨l,n,f,g,i⟩:=Xk Tryz.ajI;obtain⟨d,e,p,q,r,t,j⟩:=yf (P:=V) W base 61 ty 59 l (.int Dc 0) 1 8 Tryz.underlying61 n f g i rfl (by decide) v (N xs) _ hown hb [.int Dc (x:Int)] rfl (λu k=>by rw[Xj]at k;rw[k];rfl) hl (by decide);exact⟨d,e,p,by rw[QI,Ql];exact q,r,t,j⟩
def agK(W:U)(base:Nat)(v:KX)(n:Nat)(xs:List KX)(hown:W.ownsRow base 114 2 v n xs)(hl:n<=1000)(hb:base<=M (H W))(s:Nat)(k:Int)(ty:TypeId) :
  ∃d i,(Builtin.append_ #[57,57] ty #[v,Z (O (aD (M (H W)) 0)) 1 1]).run V (W.alloc (FL #[I J (s:Int),I Dc k] 114))=.ok d i/\
   i.ownsRow base 114 2 d (n+1) (xs++jZ (s,k))/\Kept (λb=>v.ownBlock≠O b) W i/\(∃a m c,d = .slice a m c)/\(d.ownBlock=v.ownBlock∨d.ownBlock=O (M (H W)+1)):=by obtain⟨l,p,e,f,g⟩:=Xk Tryz.ajG;exact yf (P:=V) W base 57 ty 114 l (FN #[.int J 0,.int Dc 0]) 2 16 Tryz.underlying57 p e f g rfl (by decide) v n _ hown hb [.int J (s:Int),.int Dc k] rfl (λu j=>by simp at j;rcases j with rfl|rfl <;> rfl) hl (by decide)
def ar8{ty:TypeId}{t:ag}(h:GB W b ty #[a0,a1,I J t.k0,I J t.k1,I J t.k2,I J t.k3])(hm:m<4):Am W (aD b (2+m))=O (I J (t.kd m)):=by
 rcases (by omega:m=0∨m=1∨m=2∨m=3) with rfl|rfl|rfl|rfl
 .exact h.cell 2
 .exact h.cell 3
 .exact h.cell 4
 .exact h.cell 5
def Mx{l:List Nat}(hi:i<N l):l.take (i+1)=l.take i++[E l i 0]:=by
 have e:E l i 0=l[i]:=by simp[List.getD,hi]
 rw[Qh hi,e]
def World.qB(W:U)(B:Nat)(v0 v1 v2 v3 v4 v5 v6 v7 v8 v9 v10 v11 v12:KX):World:=(qw (qw (qw (qw (qw (qw (qw (qw (qw (qw (qw (qw (qw W (aD B 0) v0) (aD B 1) v1) (aD B 2) v2) (aD B 3) v3) (aD B 4) v4) (aD B 5) v5) (aD B 6) v6) (aD B 7) v7) (aD B 8) v8) (aD B 9) v9) (aD B 10) v10) (aD B 11) v11) (aD B 12) v12)
def World.CF{a2 a3 a4 a5 a6 a7 a8 a9 Gp O5 a12:KX}(h:GB W B t #[a0,a1,a2,a3,a4,a5,a6,a7,a8,a9,Gp,O5,a12])(v0 v1 v2 v3 v4 v5 v6 v7 v8 v9 v10 v11 v12:KX):GB (World.qB W B v0 v1 v2 v3 v4 v5 v6 v7 v8 v9 v10 v11 v12) B t #[v0,v1,v2,v3,v4,v5,v6,v7,v8,v9,v10,v11,v12]:=by unfold World.qB;have h:GB _ B t #[v0,v1,v2,a3,a4,a5,a6,a7,a8,a9,Gp,O5,a12]:=((h.set 0 v0).set 1 v1).set 2 v2;have h:GB _ B t #[v0,v1,v2,v3,v4,v5,a6,a7,a8,a9,Gp,O5,a12]:=((h.set 3 v3).set 4 v4).set 5 v5;have h:GB _ B t #[v0,v1,v2,v3,v4,v5,v6,v7,v8,a9,Gp,O5,a12]:=((h.set 6 v6).set 7 v7).set 8 v8;have h:GB _ B t #[v0,v1,v2,v3,v4,v5,v6,v7,v8,v9,v10,v11,a12]:=((h.set 9 v9).set 10 v10).set 11 v11;exact h.set 12 v12
def World.wU(W:U)(B:Nat)(v0 v1 v2 v3 v4 v5 v6 v7 v8 v9 v10 v11 v12:KX):Kept (λx=>x≠B) W (World.qB W B v0 v1 v2 v3 v4 v5 v6 v7 v8 v9 v10 v11 v12):=by unfold World.qB;exact(((((((((((((Xc _ (aD B 0) _ (λh=>h rfl)).trans (Xc _ (aD B 1) _ (λh=>h rfl))).trans (Xc _ (aD B 2) _ (λh=>h rfl))).trans (Xc _ (aD B 3) _ (λh=>h rfl))).trans (Xc _ (aD B 4) _ (λh=>h rfl))).trans (Xc _ (aD B 5) _ (λh=>h rfl))).trans (Xc _ (aD B 6) _ (λh=>h rfl))).trans (Xc _ (aD B 7) _ (λh=>h rfl))).trans (Xc _ (aD B 8) _ (λh=>h rfl))).trans (Xc _ (aD B 9) _ (λh=>h rfl))).trans (Xc _ (aD B 10) _ (λh=>h rfl))).trans (Xc _ (aD B 11) _ (λh=>h rfl))).trans (Xc _ (aD B 12) _ (λh=>h rfl)))
def zC{v0 v1 v2 v3 v4 v5 v6 v7 v8 v9 v10 v11 v12:KX}(h:GB W B 63 #[v0,v1,v2,v3,v4,v5,v6,v7,v8,v9,v10,v11,v12]):(loadVar 63 (aD B 0)).run V W=.ok (FN #[v0,v1,v2,v3,v4,v5,v6,v7,v8,v9,v10,v11,v12]) W:=by obtain⟨e,f,g,i,j,k,l,m,n,p,a,b,d⟩:=h.zR;simp[go_sem,e,f,g,i,j,k,l,m,n,p,a,b,d]
theorem Tv(ao:Option Addr)(cap:Nat)(ts:List ag)(q:af)(w:U)(hx:aN w ao ts)(hq:q.At w)(ok:Ok ts q) :
  Calls V 30 #[Z ao (N ts) cap,FN q.cells] w λe w'=>∃f:bq,e=FR (FN (f.cells ts q))/\f.At ts q w'/\f.New (M (H w))/\Bw w w':=by
 obtain⟨w1,gu,di,dm⟩:=aX w q.cells 26;obtain⟨u,gy,eD,eF⟩:=aX w1 #[Z E5 0 0,Z E5 0 0,EP F,Z E5 0 0,Z E5 0 0,Z E5 0 0,Z E5 0 0,Z E5 0 0,I Dc 0,I Dc 0,Z E5 0 0,Z E5 0 0,Z E5 0 0] 63;have aY:=eD;have bf:=aj di aY;have fG:=dm.of (aY.block _ dm.lt);obtain⟨dM,dX,dQ,dR,eu,eU,eH⟩:=fG.k7;have jA:=eF;have bT:=ok.small;have fB:=ok.qX;obtain⟨S,B⟩:∃S,S=2 ^ (N q.src.xs)-1:=⟨_,rfl⟩;obtain⟨C,hC⟩:∃C,C=2 ^ (N q.wh)-1:=⟨_,rfl⟩;obtain⟨HS,dn⟩:=aV B hC;have dH:Wl (∀x,Ce 48 #[I J (N q.src.xs:Int)] x (I Dc (S:Int))):=λx=>by rw[B];exact Al (N q.src.xs) bT x
 have dI:Wl (∀x,Ce 48 #[I J (N q.wh:Int)] x (I Dc (C:Int))):=λx=>by rw[hC];exact Al (N q.wh) fB x
 clear B hC;have HX:Wl _:=hx.below bf;obtain⟨HQ,gz,gB,zK,Oe,iR⟩:=Dm (hq.below bf) hq di.size ok bf aY;have il:=hq.src.1;have iq:=hq.wh.1;clear hx hq ok bf aY di eD dm eF fG;have EX:Wl _:=jA;clear jA;obtain⟨⟨sa,sc,src⟩,dx,D,A,d,⟨L,kc,j⟩,⟨P,Q,l⟩,⟨W,X,aH⟩,⟨da,dc,r⟩⟩:=q;unfold af.cells ae.val at*;simp only at*;go_enter Tryz.func30,Tryz.ntmps30;go_upto_region 1 with fail;go_cut [5] from 13 to 22 (λc wx=>c=Y (O (aD (M (H u)) 0))/\GB wx (M (H u)) 63 #[Z sa (N src) sc,Z dx (N A) D,EP d,Z L (N j) kc,Z P (N l) Q,Z W (N aH) X,Z da (N r) dc,Z E5 0 0,I Dc (S:Int),I Dc (C:Int),Z E5 0 0,Z E5 0 0,Z E5 0 0]/\Bw u wx)
 case first=>
  refine wH u λB=>?_;refine wT 0 (FN #[Z sa (N src) sc,Z dx (N A) D,EP d,Z L (N j) kc,Z P (N l) Q,Z W (N aH) X,Z da (N r) dc]) B (λx hx=>?_) ?_
  .have e0:=Pk hx dM dX dQ dR eu eU eH;go_simp
  refine wt 1 (Y (O (aD (M (H w)) 0))) B ?_;refine wtc 2 (Z sa (N src) sc) B dM ?_;refine wt 3 (I J (N src:Int)) B ?_;refine wt 5 (Y (O (aD (M (H w)) 1))) B ?_;refine wtc 6 (Z dx (N A) D) B dX ?_;refine wt 7 (I J (N A:Int)) B ?_
  repeat' first
   |(first|refine kJ 4 10 (λK z=>?_) λK z=>?_|refine kJ 8 10 (λK z=>?_) λK z=>?_|refine kR 4 λK z=>?_|refine kR 8 λK z=>?_|refine kR 10 λK z=>?_|refine kR 11 λK z=>?_) <;> (first|(go_simp;(first|refine oA z B λB=>?_|refine z.o _ _ ((bJ _ _).drew) λB=>?_|((first|refine XO (dH.o _) ?_|refine XO (dI.o _) ?_);rintro e wz ⟨rfl,rfl⟩;refine z.o _ _ B λB=>?_));clear z K))
   |refine kG 9 ?_;refine wt 9 (FN #[Z sa (N src) sc,Z dx (N A) D,EP d,Z L (N j) kc,Z P (N l) Q,Z W (N aH) X,Z da (N r) dc,Z E5 0 0,I Dc (S:Int),I Dc (C:Int),Z E5 0 0,Z E5 0 0,Z E5 0 0]) B ?_
   |refine kD ?_;(try simp only[pU]);go_wp2_with fail;go_meet;exact⟨rfl,iX u _,B⟩
 case rest=>
 obtain⟨rfl,dw,bN⟩:=hcut;obtain⟨w3,gD⟩:∃x,x=wc:=⟨_,rfl⟩;subst gD;have Cu:Wl (∀x,Kept (λb=>b≠M (H u)) w3 x->Bw u x):=λx hk=>bN.trans (hk.below bN.size (λb hb=>Nat.ne_of_lt hb));have fC:Wl _:=dw;have ik:=dw.lt;have n0:=cB bN dM;clear dw bN gu gy dH dI;go_wp2;go_loopw [26] (λiv wr=>∃k:Nat,k<=N src/\iv=I J k/\∃cv rv,Wl (GB wr (M (H u)) 63 #[Z sa (N src) sc,Z dx (N A) D,EP d,Z L (N j) kc,Z P (N l) Q,Z W (N aH) X,Z da (N r) dc,cv,I Dc (S:Int),I Dc (C:Int),rv,Z E5 0 0,Z E5 0 0])/\Wl (wr.ownsRow (M (H w3)) 114 2 cv (N (bV ts src k)) ((bV ts src k).flatMap jZ))/\Wl (wr.ownsRow (M (H w3)) 72 1 rv (N (qN ts src k)) ((qN ts src k).map λ(x:Nat)=>I Dc (x:Int)))/\Wl (Kept (λb=>b≠M (H u)) w3 wr)) (λiv _=>N src-(intOf iv).toNat)
 case atStart=>exact⟨0,Q4 _,rfl,Z E5 0 0,Z E5 0 0,fC.o,Xl _ _ _ _,Xl _ _ _ _,Zx _ _⟩
 case round=>
  obtain⟨k,hk,rfl,cv,rv,HG,pE,Ls,xI⟩:=hrel;have aK:=Cu.o wr xI.o;have q0:=cB aK dM;by_cases bR:k<N src
  .obtain⟨sb,so,rfl,eG⟩:=Qg (Qt aK HQ.o.src) bR;have fD:=eG k bR;obtain⟨eO,eP⟩:=yl zK.o.src bR;obtain⟨n,hn⟩:=XD eO;have iw:Am wr (aD sb (so+k))=O (I J (n:Int)):=by grind
   have dK:n<N ts:=by have h:E src k 0<(N ts:Int):=eP;rw[hn]at h;omega
   obtain⟨tb,iT,rfl,c0,c1,c2,c3,c4,c5⟩:=(aN.below aK HX.o).2 n dK;have bU:=yh zK.o.cat dK;have bW:Wl (qN ts src (k+1)=qN ts src k++[(E ts n tz).rows.toNat]):=by show _=_;rw[Tp];unfold iO;rw[Xu,show (E src k 0).toNat=n by rw[hn];rfl]
   have Ib:Wl (bV ts src (k+1)=bV ts src k++(List.range (E ts n tz).cols.toNat).map λm=>(k,(E ts n tz).kd m)):=by show _=_;rw[jC,show (E src k 0).toNat=n by rw[hn];rfl]
   have dL:Wl (∀m,(bV ts src k++((List.range (m+1)).map λm=>(k,(E ts n tz).kd m))).flatMap jZ=(bV ts src k++((List.range m).map λm=>(k,(E ts n tz).kd m))).flatMap jZ++jZ (k,(E ts n tz).kd m)):=λm=>by have:=acP ts src k m;rw[show (E src k 0).toNat=n by rw[hn];rfl]at this;exact this
   have sO:Wl (N (bV ts src k)<=4*k):=Ed zK.o.cat zK.o.src bT k (by omega);have PW:=Zh (sF ts src k);unfold dJ at bU;rw[Qz]at bU;obtain⟨gF,gG,eQ,gH,eT⟩:=bU;have lZ:=Zh eT;clear eG fD eO eP hn eT;generalize bV ts src k=CK at*;generalize E ts n tz=t at*;obtain⟨R,hR⟩:=XD eQ;obtain⟨cn,dz⟩:=XD (show 0<=t.cols by omega);rw[hR]at c1 gH;rw[dz]at c0 gF gG;rw[hR,Xu]at bW;rw[dz,Xu]at Ib lZ;obtain⟨wb,dA,aa,dB⟩:=aX wr #[I J (cn:Int),I J (R:Int),I J t.k0,I J t.k1,I J t.k2,I J t.k3] 53;have b1:=dB.at 1;clear hR dz eQ;obtain⟨ra,rm,rc,rfl⟩:=Xg Ls.o;have bg:=HG.o.of (aa.block _ HG.o.lt);have fE:=bg.at 10;have bn:=XJ Ls.o aa;have dO:=Q6 xI.o.size aa.size;obtain⟨v',w5,iW,mq,aS,⟨va,vm,vc,rfl⟩,ah⟩:=Tu wb (M (H w3)) (Z ra rm rc) (qN ts src k) bn (by rw[PW.o];omega) dO R 60;rw[<-bW.o]at mq;obtain⟨g5,gY,oY,kY⟩:=CE Tryz.Tt bg bn mq aS ah 10;have f5:=g5.at 10;have z5:=g5.frozen 10;obtain⟨Yq,hY⟩:=eX (qw w5 (aD (M (H u)) 10) (Z va vm vc));rw[hY]at gY oY kY;have dP:GB Yq (M (H u)) 63 #[Z (O (aD sb so)) (N src) sc,Z dx (N A) D,EP d,Z L (N j) kc,Z P (N l) Q,Z W (N aH) X,Z da (N r) dc,cv,I Dc (S:Int),I Dc (C:Int),Z va vm vc,Z E5 0 0,Z E5 0 0]:=gY;have bX:M (H wr)≠M (H u):=by have:=HG.o.lt;omega
   have bY:∀b,(Value.slice ra rm rc).ownBlock=O b->M (H w3)<=b/\b<M (H wr):=λb h=>Xf Ls.o h;have bZ:=dB.keep kY ⟨bX,λe=>by have:=(bY _ e).2;omega⟩;obtain⟨dC,dD⟩:=aV ((xI.o.trans (ZA aa (λb hb _=>hb))).trans' kY (λb hb h=>⟨h,λe=>by have:=(bY _ e).1;omega⟩)) (Xe (XJ pE.o aa) kY (λg hg=>⟨λe=>rE Tryz.aaf (XJ pE.o aa) bg (by rw[hg,e]),Cz Tryz.alA (XJ pE.o aa) bn hg⟩));have y0:=bZ.at 0;have cu:=hd bZ;have cz:Wl _:=dP;have cK:Wl _:=oY;have fF:Wl _:=bX;clear gY dP oY kY bZ bY mq aS ah bn bg g5 dB Ls pE HG bW dO xI bX;go_wp2_with (first|(at_builtin;refine Xy rfl (.tmp 36) (.tmp 40) 60 rfl (Z ra rm rc) (Z (O (aD (M (H wb)) 0)) 1 1) (Z va vm vc) w5 rfl rfl iW ?_));clear iW;go_wp2;clear hY dA f5 z5 fE b1 aa;obtain⟨w9,gI⟩:∃x,x=wr:=⟨_,rfl⟩;subst gI;go_loopw [48] (λjv wx=>∃m:Nat,m<=cn/\jv=I J m/\∃cx,Wl (GB wx (M (H u)) 63 #[Z (O (aD sb so)) (N src) sc,Z dx (N A) D,EP d,Z L (N j) kc,Z P (N l) Q,Z W (N aH) X,Z da (N r) dc,cx,I Dc (S:Int),I Dc (C:Int),Z va vm vc,Z E5 0 0,Z E5 0 0])/\Wl (wx.ownsRow (M (H w3)) 114 2 cx (N CK+m) ((CK++((List.range m).map λm=>(k,t.kd m))).flatMap jZ))/\Wl (wx.ownsRow (M (H w3)) 72 1 (Z va vm vc) (N (qN ts src (k+1))) ((qN ts src (k+1)).map λ(x:Nat)=>I Dc (x:Int)))/\Wl (Kept (λb=>b≠M (H u)) w3 wx)/\Wl (GB wx (M (H w9)) 53 #[I J (cn:Int),I J (R:Int),I J t.k0,I J t.k1,I J t.k2,I J t.k3])) (λjv _=>cn-(intOf jv).toNat)
   case atStart=>exact⟨0,Q4 _,rfl,cv,cz.o,by show Wl _;rw[List.range_zero,List.map_nil,QN];exact dD.o,cK.o,dC.o,cu.o⟩
   case round=>
    obtain⟨m,hm,rfl,cx,aT,Dg,aU,Mk,bO⟩:=hrel;by_cases ig:m<cn
    .obtain⟨gJ,eZ⟩:=lZ.o m ig;have fH:=ar8 bO.o (m:=m) (by omega);obtain⟨kn,fo⟩:=XD (show 0<=t.kd m by omega);have Rw:=Zh (dL.o m);rw[fo]at fH eZ Rw;clear gJ fo;obtain⟨ca,cm,cc,rfl⟩:=Xg Dg.o;have f7:=aT.o.at 7;have fI:=Mk.o.size;obtain⟨v',w5,iW,mq,aS,⟨na,nm,nc,rfl⟩,ah⟩:=agK wr (M (H w3)) (Z ca cm cc) (N CK+m) _ Dg.o (by have:=sO.o;omega) fI k (kn:Int) 57;rw[<-Rw.o]at mq;obtain⟨g5,gZ,oZ,kZ⟩:=CE Tryz.aaf aT.o Dg.o mq aS ah 7;have f5:=g5.at 7;have z5:=g5.frozen 7;obtain⟨Zq,hZ⟩:=eX (qw w5 (aD (M (H u)) 7) (Z na nm nc))
     rw[hZ]at gZ oZ kZ;have YW:=hd gZ;have fK:Wl _:=oZ;have dS:=λb h=>Xf Dg.o (g:=b) h;obtain⟨gK,gL,gM⟩:=fe (bO.o.keep kZ ⟨fF.o,rE Tryz.ar7 Dg.o bO.o⟩) (Xe aU.o kZ (λg hg=>⟨λe=>rE Tryz.Tt aU.o aT.o (by rw[hg,e]),λe=>Cz Tryz.alA Dg.o aU.o e hg⟩)) (Mk.o.trans' kZ (λb hb h=>⟨h,λe=>by have:=(dS _ e).1;omega⟩));clear gZ oZ kZ aS ah g5 mq dS Rw aT Dg aU Mk bO cz dD cK dC cu Ib;go_wp2_with (first|(at_builtin;refine Xy rfl (.tmp 53) (.tmp 58) 57 rfl (Z ca cm cc) (Z (O (aD (M (H wr)) 0)) 1 1) (Z na nm nc) w5 rfl rfl iW ?_));clear iW;go_wp2;go_roundw
     case rel=>exact⟨m+1,by omega,by go_num,Z na nm nc,YW.o,fK.o,gL.o,gM.o,gK.o⟩
     case measure=>simp[intOf];omega
    .obtain rfl:m=cn:=by omega
     clear cz dD cK dC cu dL;go_wp2;go_roundw
     case rel=>
      refine⟨k+1,by omega,by go_num,cx,Z va vm vc,aT.o,?_,aU.o,Mk.o⟩;have h:=Dg.o;have e:=Zh Ib.o;show Wl _;rw[e.o,QI,Q8,Q9];exact h
     case measure=>simp[intOf];omega
  .obtain rfl:k=N src:=by omega
   obtain⟨w4,gN⟩:∃x,x=wr:=⟨_,rfl⟩;subst gN;have sO:Wl (N (bV ts src (N src))<=4*N src):=Ed zK.o.cat zK.o.src bT (N src) (Qs _);obtain⟨ca,cc,rfl,-⟩:=Hd pE.o (by have:=sO.o;omega);obtain⟨ra,rc,rfl,-⟩:=uS Ls.o (by rw[sF];omega);rw[sF]at HG Ls;obtain⟨CL,dE⟩:=eY (BS ts ⟨⟨sa,sc,src⟩,dx,D,A,d,⟨L,kc,j⟩,⟨P,Q,l⟩,⟨W,X,aH⟩,⟨da,dc,r⟩⟩);obtain⟨PL,MC⟩:=eY (zY ts ⟨⟨sa,sc,src⟩,dx,D,A,d,⟨L,kc,j⟩,⟨P,Q,l⟩,⟨W,X,aH⟩,⟨da,dc,r⟩⟩);obtain⟨fq,fu⟩:=aV dE MC;have aC:Wl (N CL=N A):=by rw[dE];exact Lu ts ⟨⟨sa,sc,src⟩,dx,D,A,d,⟨L,kc,j⟩,⟨P,Q,l⟩,⟨W,X,aH⟩,⟨da,dc,r⟩⟩
   have aF:Wl (N PL=N A):=by rw[MC];exact Lv ts ⟨⟨sa,sc,src⟩,dx,D,A,d,⟨L,kc,j⟩,⟨P,Q,l⟩,⟨W,X,aH⟩,⟨da,dc,r⟩⟩
   clear dE MC;have cO:Wl (∀x,Kept (λb=>b≠M (H u)) w4 x->jL x ca (bV ts src (N src))):=λx hk=>by obtain⟨a,c,e,h⟩:=Hd (Xe pE.o hk (λg hg e=>rE Tryz.aaf pE.o HG.o (by rw[hg,e]))) (by have:=sO.o;omega);cases e;exact h
   have n1:=cB aK dX;clear aK q0 hk bR;go_wp2;go_loopw [66] (λiv wr=>∃i:Nat,i<=N A/\iv=I J i/\∃nv pv,Wl (GB wr (M (H u)) 63 #[Z sa (N src) sc,Z dx (N A) D,EP d,Z L (N j) kc,Z P (N l) Q,Z W (N aH) X,Z da (N r) dc,Z ca (N (bV ts src (N src))) cc,I Dc (S:Int),I Dc (C:Int),Z ra (N src) rc,nv,pv])/\Wl (wr.ownsRow (M (H w4)) 59 1 (nv) (N (CL.take i)) ((CL.take i).map λ(x:Nat)=>I Dc (x:Int)))/\Wl (wr.ownsRow (M (H w4)) 72 1 (pv) (N (PL.take i)) ((PL.take i).map λ(x:Nat)=>I Dc (x:Int)))/\Wl (Kept (λb=>b≠M (H u)) w4 wr)) (λiv _=>N A-(intOf iv).toNat)
   case atStart=>exact⟨0,Q4 _,rfl,Z E5 0 0,Z E5 0 0,HG.o,Xl _ _ _ _,Xl _ _ _ _,Zx _ _⟩
   case round=>
    obtain⟨i,hi,rfl,nv,pv,aI,uY,ai,aJ⟩:=hrel;have aL:=Cu.o wr (xI.o.trans aJ.o);by_cases KA:i<N A
    .obtain⟨cb,co,Ve,fw⟩:=Qf (HQ.o.below aL).wh.2.1 KA;have bu:Am wr (aD cb (co+i))=O ((E A i lz).val):=fw i KA;obtain⟨ak,Tw⟩:∃x,x=E A i lz:=⟨_,rfl⟩
     have cZ:bS wr ak.ad ak.cs:=by rw[Tw];exact(HQ.o.below aL).wh.2.2 i KA
     have aM:bS u ak.ad ak.cs:=by rw[Tw];exact HQ.o.wh.2.2 i KA
     have fJ:uU ts ⟨⟨sa,sc,src⟩,dx,D,A,d,⟨L,kc,j⟩,⟨P,Q,l⟩,⟨W,X,aH⟩,⟨da,dc,r⟩⟩ (aG ak.cs):=by rw[Tw];exact zK.o.cols i KA
     have ax:0<N ak.cs:=by rw[Tw];exact zK.o.some i KA
     have dU:Wl (E CL i 0=aZ (fP ts src ak.cs)):=by show _=_;rw[fq.o,Tw];exact LD ts ⟨⟨sa,sc,src⟩,dx,D,A,d,⟨L,kc,j⟩,⟨P,Q,l⟩,⟨W,X,aH⟩,⟨da,dc,r⟩⟩ KA
     have dV:Wl (E PL i 0=dN ts src ak.cs):=by show _=_;rw[fu.o,Tw];exact DJ ts ⟨⟨sa,sc,src⟩,dx,D,A,d,⟨L,kc,j⟩,⟨P,Q,l⟩,⟨W,X,aH⟩,⟨da,dc,r⟩⟩ KA
     rw[<-Tw]at bu;clear Tw fw;subst Ve;obtain⟨ad,au,cs⟩:=ak;unfold az.val at bu;simp only at bu cZ aM fJ ax dU dV;obtain⟨w8,gP⟩:∃x,x=wr:=⟨_,rfl⟩;subst gP;obtain⟨xa,xm,xc,rfl⟩:=Xg uY.o;obtain⟨pa,pm,pc,rfl⟩:=Xg ai.o;obtain⟨wb,dA,aa,fA⟩:=aX w8 #[Z ad (N cs) au] 88;have aO:=fA.at 0;obtain⟨G,ay,aA,dF⟩:=xA (aI.o.of (aa.block _ aI.o.lt)) (XJ uY.o aa) (XJ ai.o aa) (aJ.o.trans (ZA aa (λb hb _=>hb)));have dW:Wl (M (H w8)≠M (H u)):=λe=>by have:=aI.o.lt;omega
     have aQ:Wl (M (H w8)≠M (H u)/\(Value.slice xa xm xc).ownBlock≠O (M (H w8))):=⟨dW.o,λe=>by have:=(Xf uY.o e).2;omega⟩;have fO:Wl ((Value.slice pa pm pc).ownBlock≠O (M (H w8))):=λe=>by have:=(Xf ai.o e).2;omega
     have fQ:Wl _:=bS.below aa cZ;have fT:=hd aM;have dY:Wl _:=fJ;obtain⟨gQ,gT,gU⟩:=fe ax (Mx (by rw[aC.o];exact KA)) (Mx (by rw[aF.o];exact KA));generalize E CL i 0=cgi at*;generalize E PL i 0=pgi at*;have dZ:Wl (∀x,Bw wb x->Cb 49 #[FN #[Z sa (N src) sc,Z (O (aD cb co)) (N A) D,EP d,Z L (N j) kc,Z P (N l) Q,Z W (N aH) X,Z da (N r) dc,Z ca (N (bV ts src (N src))) cc,I Dc (S:Int),I Dc (C:Int),Z ra (N src) rc,Z xa xm xc,Z pa pm pc],FN #[Z ad (N cs) au]] x (I Dc ((cgi:Nat):Int))):=λx hx=>by have h:=Oz ⟨ca,cc,ra,rc,xa,xm,xc,pa,pm,pc⟩ ts ⟨⟨sa,sc,src⟩,O (aD cb co),D,A,d,⟨L,kc,j⟩,⟨P,Q,l⟩,⟨W,X,aH⟩,⟨da,dc,r⟩⟩ ad au cs x zK.o (cO.o x (dF.o.trans (ZA hx (λb hb _=>hb)))) (bS.below hx (fQ.o)) dY.o;simp only[bq.cells,ae.val,iL]at h;rw[<-HS.o,<-dn.o]at h;rw[dU.o];exact h
     have bz:Wl (∀w6,Bw wb w6->∃ya ym yc w7,(Builtin.append_ #[61,61] 61 #[Z xa xm xc,Z (O (aD (M (H w6)) 0)) 1 1]).run V (w6.alloc (FL #[I Dc ((cgi:Nat):Int)] 59))=.ok (Z ya ym yc) w7/\Kept (λb=>b≠M (H u)/\(Value.slice xa xm xc).ownBlock≠O b) wb w7/\
       Am w7 (aD (M (H u)) 11)=O (Z xa xm xc)/\w7.frozen? (aD (M (H u)) 11)=F/\Kept (λb=>b≠M (H u)/\(Value.slice xa xm xc).ownBlock≠O b) wb (qw w7 (aD (M (H u)) 11) (Z ya ym yc))/\∃nx,GB (qw w7 (aD (M (H u)) 11) (Z ya ym yc)) (M (H u)) 63 #[Z sa (N src) sc,Z (O (aD cb co)) (N A) D,EP d,Z L (N j) kc,Z P (N l) Q,Z W (N aH) X,Z da (N r) dc,Z ca (N (bV ts src (N src))) cc,I Dc (S:Int),I Dc (C:Int),Z ra (N src) rc,nx,Z pa pm pc]/\(qw w7 (aD (M (H u)) 11) (Z ya ym yc)).ownsRow (M (H w4)) 59 1 (nx) (N (CL.take (i+1))) ((CL.take (i+1)).map λ(x:Nat)=>I Dc (x:Int))/\(qw w7 (aD (M (H u)) 11) (Z ya ym yc)).ownsRow (M (H w4)) 72 1 (Z pa pm pc) (N (PL.take i)) ((PL.take i).map λ(x:Nat)=>I Dc (x:Int))/\Kept (λb=>b≠M (H u)) w4 (qw w7 (aD (M (H u)) 11) (Z ya ym yc))/\Am (qw w7 (aD (M (H u)) 11) (Z ya ym yc)) (aD (M (H w8)) 0)=O (Z ad (N cs) au)):=λw6 y=>by have g6:=G.o.of (y.block _ G.o.lt);have o6:=XJ ay.o y;have k6:Kept (λ_=>True) wb w6:=ZA y (λb hb _=>hb);obtain⟨v',w7,av,aW,Uv,⟨ya,ym,yc,rfl⟩,ah⟩:=agJ w6 (M (H w4)) (Z xa xm xc) (CL.take i) o6 (by rw[XK];have:=aC.o;omega) (Q6 dF.o.size y.size) cgi 61;rw[<-gT.o]at aW;obtain⟨g7,gZ,oZ,kZ⟩:=CE Tryz.alz g6 o6 aW Uv ah 11;refine⟨ya,ym,yc,w7,av,(k6.mono λ_ _ _=>trivial).trans (Uv.mono λ_ _ h=>h.2),g7.cell 11,g7.frozen 11,(k6.mono λ_ _ _=>trivial).trans kZ,Z ya ym yc,gZ,oZ,Xe (XJ aA.o y) kZ (λg hg=>⟨λe=>rE Tryz.Tt (XJ aA.o y) g6 (by rw[hg,e]),λe=>Cz Tryz.alB o6 (XJ aA.o y) e hg⟩),dF.o.trans' ((k6.mono λ_ _ _=>trivial).trans kZ) (λb hb h=>⟨h,λe=>by have:=(Xf ay.o e).1;omega⟩),ZY (cB y aO) kZ aQ.o⟩
     have fL:=G.o.at 11;have bA:=G.o.at 0;have bB:=G.o.at 1;have bC:=G.o.at 2;have bD:=G.o.at 3;have bE:=G.o.at 4;have bF:=G.o.at 5;have bG:=G.o.at 6;have bH:=G.o.at 7;have bI:=G.o.at 8;have bK:=G.o.at 9;have bL:=G.o.at 10;have ed:=G.o.at 12;clear fA aa cZ aM fJ ax aI uY ai aJ aL HG pE Ls;go_upto_region 16 with fail;clear dA bu;go_cut [66] from 66 to 86 (λiv wx=>iv=I J (i:Int)/\∃nv,GB wx (M (H u)) 63 #[Z sa (N src) sc,Z (O (aD cb co)) (N A) D,EP d,Z L (N j) kc,Z P (N l) Q,Z W (N aH) X,Z da (N r) dc,Z ca (N (bV ts src (N src))) cc,I Dc (S:Int),I Dc (C:Int),Z ra (N src) rc,nv,Z pa pm pc]/\wx.ownsRow (M (H w4)) 59 1 (nv) (N (CL.take (i+1))) ((CL.take (i+1)).map λ(x:Nat)=>I Dc (x:Int))/\wx.ownsRow (M (H w4)) 72 1 (Z pa pm pc) (N (PL.take i)) ((PL.take i).map λ(x:Nat)=>I Dc (x:Int))/\Kept (λb=>b≠M (H u)) w4 wx/\Am wx (aD (M (H w8)) 0)=O (Z ad (N cs) au))
     case first=>
      refine QW (S:=λx=>Kept (λb=>b≠M (H u)/\(Value.slice xa xm xc).ownBlock≠O b) wb x) (by kernel_rfl) (ZA ((Qr _ _).drew) (λb hb _=>hb)) (λB=>?_);refine wt 0 (Y (O (aD (M (H u)) 11))) B ?_;refine wT 3 (FN #[Z ad (N cs) au]) B (λx hx=>?_) ?_
      .have e0:=ZY aO hx aQ.o;go_simp
      repeat' first
       |(first|refine kJ 1 2 (λK z=>?_) λK z=>?_|refine kJ 1 4 (λK z=>?_) λK z=>?_|refine kJ 1 5 (λK z=>?_) λK z=>?_|refine kR 1 λK z=>?_|refine kR 2 λK z=>?_|refine kR 4 λK z=>?_|refine kR 5 λK z=>?_|refine kR 6 λK z=>?_|refine kR 7 λK z=>?_|refine kR 8 λK z=>?_) <;> (first|(obtain⟨ya,ym,yc,w7,av,bP,f7,z7,bQ,dG⟩:=bz.o w6 y;refine X6 (by rfl) _ _ _ (by rfl) (Z xa xm xc) (Z (O (aD (M (H w6)) 0)) 1 1) (Z ya ym yc) w7 (by rfl) (by rfl) av ?_;refine z.o _ _ bP λB=>?_;clear z K av)|(go_simp;(first|refine z.o _ _ B λB=>?_|refine z.o _ _ bQ λB=>?_|(have fU:Am (w6.alloc (FL #[I Dc (cgi:Int)] 59)) (aD (M (H u)) 11)=O (Z xa xm xc):=cB (bJ _ _) f6;refine z.o _ _ (B.trans (ZE _ _)) λB=>?_)|(refine XO (dZ.o _ ((Qr _ _).drew)) ?_;rintro e w6 ⟨rfl,y⟩;have y:Bw wb w6:=((Qr _ _).drew).trans y;have f6:=cB y fL;refine z.o _ _ (ZA y (λb hb _=>hb)) λB=>?_));clear z K))
       |refine kD ?_;(try simp only[pU]);go_wp2_with fail;go_meet;exact⟨rfl,dG⟩
     case rest=>
      obtain⟨rfl,nv,h1,h2,h3,h4,h5⟩:=hcut;obtain⟨wd,gV⟩:∃x,x=wc:=⟨_,rfl⟩;subst gV;clear bz dZ G ay aA bA bB bC bD bE bF bG bH bI bK bL ed fL aQ;obtain⟨na,nm,nc,rfl⟩:=Xg h2;have G:=hd h1;have ay:=hd h2;have aA:=hd h3;have aO:=h5;have bM:=hd h4;clear h1 h2 h3 h4 h5;obtain⟨gW,gX⟩:=aV (bS.below (Cu.o wd (xI.o.trans bM.o)) fT.o) fO.o;obtain⟨xa,ha⟩:∃x,x=pa:=⟨_,rfl⟩;obtain⟨xm,hm⟩:∃x,x=pm:=⟨_,rfl⟩;obtain⟨xc,hc⟩:∃x,x=pc:=⟨_,rfl⟩;subst ha hm hc;have fV:Wl (∀x,Bw wd x->Cb 50 #[FN #[Z sa (N src) sc,Z (O (aD cb co)) (N A) D,EP d,Z L (N j) kc,Z P (N l) Q,Z W (N aH) X,Z da (N r) dc,Z ca (N (bV ts src (N src))) cc,I Dc (S:Int),I Dc (C:Int),Z ra (N src) rc,Z na nm nc,Z xa xm xc],FN #[Z ad (N cs) au]] x (I Dc ((pgi:Nat):Int))):=λx hx=>by have h:=WA ⟨ca,cc,ra,rc,na,nm,nc,xa,xm,xc⟩ ts ⟨⟨sa,sc,src⟩,O (aD cb co),D,A,d,⟨L,kc,j⟩,⟨P,Q,l⟩,⟨W,X,aH⟩,⟨da,dc,r⟩⟩ ad au cs x zK.o (cO.o x (bM.o.trans (ZA hx (λb hb _=>hb)))) (bS.below hx (gW.o)) gQ.o dY.o;simp only[bq.cells,ae.val,iL]at h;rw[<-HS.o,<-dn.o]at h;rw[dV.o];exact h
      have bz:Wl (∀w6,Bw wd w6->∃ya ym yc w7,(Builtin.append_ #[60,60] 60 #[Z xa xm xc,Z (O (aD (M (H w6)) 0)) 1 1]).run V (w6.alloc (FL #[I Dc ((pgi:Nat):Int)] 72))=.ok (Z ya ym yc) w7/\Kept (λb=>b≠M (H u)/\(Value.slice xa xm xc).ownBlock≠O b) wd w7/\
        Am w7 (aD (M (H u)) 12)=O (Z xa xm xc)/\w7.frozen? (aD (M (H u)) 12)=F/\Kept (λb=>b≠M (H u)/\(Value.slice xa xm xc).ownBlock≠O b) wd (qw w7 (aD (M (H u)) 12) (Z ya ym yc))/\∃nx,GB (qw w7 (aD (M (H u)) 12) (Z ya ym yc)) (M (H u)) 63 #[Z sa (N src) sc,Z (O (aD cb co)) (N A) D,EP d,Z L (N j) kc,Z P (N l) Q,Z W (N aH) X,Z da (N r) dc,Z ca (N (bV ts src (N src))) cc,I Dc (S:Int),I Dc (C:Int),Z ra (N src) rc,Z na nm nc,nx]/\(qw w7 (aD (M (H u)) 12) (Z ya ym yc)).ownsRow (M (H w4)) 59 1 (Z na nm nc) (N (CL.take (i+1))) ((CL.take (i+1)).map λ(x:Nat)=>I Dc (x:Int))/\(qw w7 (aD (M (H u)) 12) (Z ya ym yc)).ownsRow (M (H w4)) 72 1 (nx) (N (PL.take (i+1))) ((PL.take (i+1)).map λ(x:Nat)=>I Dc (x:Int))/\Kept (λb=>b≠M (H u)) w4 (qw w7 (aD (M (H u)) 12) (Z ya ym yc))):=λw6 y=>by have g6:=G.o.of (y.block _ G.o.lt);have o6:=XJ aA.o y;have k6:Kept (λ_=>True) wd w6:=ZA y (λb hb _=>hb);obtain⟨v',w7,av,aW,Uv,⟨ya,ym,yc,rfl⟩,ah⟩:=Tu w6 (M (H w4)) (Z xa xm xc) (PL.take i) o6 (by rw[XK];have:=aF.o;omega) (Q6 bM.o.size y.size) pgi 60;rw[<-gU.o]at aW;obtain⟨g7,gZ,oZ,kZ⟩:=CE Tryz.Tt g6 o6 aW Uv ah 12;refine⟨ya,ym,yc,w7,av,(k6.mono λ_ _ _=>trivial).trans (Uv.mono λ_ _ h=>h.2),g7.cell 12,g7.frozen 12,(k6.mono λ_ _ _=>trivial).trans kZ,Z ya ym yc,gZ,Xe (XJ ay.o y) kZ (λg hg=>⟨λe=>rE Tryz.alz (XJ ay.o y) g6 (by rw[hg,e]),λe=>Cz Tryz.alB (XJ ay.o y) o6 hg e⟩),oZ,bM.o.trans' ((k6.mono λ_ _ _=>trivial).trans kZ) (λb hb h=>⟨h,λe=>by have:=(Xf aA.o e).1;omega⟩)⟩
      have fL:=G.o.at 12;have aQ:Wl (M (H w8)≠M (H u)/\(Value.slice xa xm xc).ownBlock≠O (M (H w8))):=⟨dW.o,gX.o⟩;have bA:=G.o.at 0;have bB:=G.o.at 1;have bC:=G.o.at 2;have bD:=G.o.at 3;have bE:=G.o.at 4;have bF:=G.o.at 5;have bG:=G.o.at 6;have bH:=G.o.at 7;have bI:=G.o.at 8;have bK:=G.o.at 9;have bL:=G.o.at 10;have ek:=G.o.at 11;go_upto_region 17 with fail;refine QW (S:=λx=>Kept (λb=>b≠M (H u)/\(Value.slice xa xm xc).ownBlock≠O b) wd x) (by kernel_rfl) (ZA ((Qr _ _).drew) (λb hb _=>hb)) (λB=>?_);refine wt 0 (Y (O (aD (M (H u)) 12))) B ?_;refine wT 3 (FN #[Z ad (N cs) au]) B (λx hx=>?_) ?_
      .have e0:=ZY aO hx aQ.o;go_simp
      repeat' first
       |(first|refine kJ 1 2 (λK z=>?_) λK z=>?_|refine kJ 1 4 (λK z=>?_) λK z=>?_|refine kJ 1 5 (λK z=>?_) λK z=>?_|refine kR 1 λK z=>?_|refine kR 2 λK z=>?_|refine kR 4 λK z=>?_|refine kR 5 λK z=>?_|refine kR 6 λK z=>?_|refine kR 7 λK z=>?_|refine kR 8 λK z=>?_) <;> (first|(obtain⟨ya,ym,yc,w7,av,bP,f7,z7,bQ,dG⟩:=bz.o w6 y;refine X6 (by rfl) _ _ _ (by rfl) (Z xa xm xc) (Z (O (aD (M (H w6)) 0)) 1 1) (Z ya ym yc) w7 (by rfl) (by rfl) av ?_;refine z.o _ _ bP λB=>?_;clear z K av)|(go_simp;(first|refine z.o _ _ B λB=>?_|refine z.o _ _ bQ λB=>?_|(have fU:Am (w6.alloc (FL #[I Dc (pgi:Int)] 72)) (aD (M (H u)) 12)=O (Z xa xm xc):=cB (bJ _ _) f6;refine z.o _ _ (B.trans (ZE _ _)) λB=>?_)|(refine XO (fV.o _ ((Qr _ _).drew)) ?_;rintro e w6 ⟨rfl,y⟩;have y:Bw wd w6:=((Qr _ _).drew).trans y;have f6:=cB y fL;refine z.o _ _ (ZA y (λb hb _=>hb)) λB=>?_));clear z K))
       |refine kD ?_;(try simp only[pU])
        obtain⟨nx,r1,r2,r3,r4⟩:=dG;have fZ:Wl _:=r1;have gm:Wl _:=r2;have gp:Wl _:=r3;have gq:=Zh r4;clear r1 r2 r3 r4 f7 z7 bQ bP f6 aO B fL bA bB bC bD bE bF bG bH bI bK bL ek;go_wp2;go_roundw
        case rel=>exact⟨i+1,by omega,by go_num,Z na nm nc,nx,fZ.o,gm.o,gp.o,gq.o⟩
        case measure=>simp[intOf];omega
    .obtain rfl:i=N A:=by omega
     obtain⟨w5,O7⟩:∃x,x=wr:=⟨_,rfl⟩;subst O7;rw[Xt (by rw[aC.o];exact Qs _)]at uY;rw[Xt (by rw[aF.o];exact Qs _)]at ai;obtain⟨na,nc,rfl,ib⟩:=uS uY.o (by rw[aC.o];omega);obtain⟨pa,pc,rfl,ic⟩:=uS ai.o (by rw[aF.o];omega);have eB:=aI.o;have zO:=(show GB u (M (H w1)) 63 #[Z E5 0 0,Z E5 0 0,EP F,Z E5 0 0,Z E5 0 0,Z E5 0 0,Z E5 0 0,Z E5 0 0,I Dc 0,I Dc 0,Z E5 0 0,Z E5 0 0,Z E5 0 0] from EX.o).of (aL.block _ (show GB u (M (H w1)) 63 #[Z E5 0 0,Z E5 0 0,EP F,Z E5 0 0,Z E5 0 0,Z E5 0 0,Z E5 0 0,Z E5 0 0,I Dc 0,I Dc 0,Z E5 0 0,Z E5 0 0,Z E5 0 0] from EX.o).lt);have iy:=(show GB u (M (H w1)) 63 #[Z E5 0 0,Z E5 0 0,EP F,Z E5 0 0,Z E5 0 0,Z E5 0 0,Z E5 0 0,Z E5 0 0,I Dc 0,I Dc 0,Z E5 0 0,Z E5 0 0,Z E5 0 0] from EX.o).lt;have aR:=World.wU w5 (M (H w1)) (Z sa (N src) sc) (Z dx (N A) D) (EP d) (Z L (N j) kc) (Z P (N l) Q) (Z W (N aH) X) (Z da (N r) dc) (Z ca (N (bV ts src (N src))) cc) (I Dc (S:Int)) (I Dc (C:Int)) (Z ra (N src) rc) (Z na (N CL) nc) (Z pa (N PL) pc);have mG:=Zh (zC (World.CF zO (Z sa (N src) sc) (Z dx (N A) D) (EP d) (Z L (N j) kc) (Z P (N l) Q) (Z W (N aH) X) (Z da (N r) dc) (Z ca (N (bV ts src (N src))) cc) (I Dc (S:Int)) (I Dc (C:Int)) (Z ra (N src) rc) (Z na (N CL) nc) (Z pa (N PL) pc)));have aB:∀{e:TypeId} {base sz n:Nat} {v:KX} {xs:List KX},M (H u)<=base->w5.ownsRow base e sz v n xs->(World.qB w5 (M (H w1)) (Z sa (N src) sc) (Z dx (N A) D) (EP d) (Z L (N j) kc) (Z P (N l) Q) (Z W (N aH) X) (Z da (N r) dc) (Z ca (N (bV ts src (N src))) cc) (I Dc (S:Int)) (I Dc (C:Int)) (Z ra (N src) rc) (Z na (N CL) nc) (Z pa (N PL) pc)).ownsRow base e sz v n xs:=λhb h=>Xe h aR (λg hg e=>by have:=(Xf h hg).1;omega);have iA:=xI.o.size;have iB:=gB.o;have df:Bw w (World.qB w5 (M (H w1)) (Z sa (N src) sc) (Z dx (N A) D) (EP d) (Z L (N j) kc) (Z P (N l) Q) (Z W (N aH) X) (Z da (N r) dc) (Z ca (N (bV ts src (N src))) cc) (I Dc (S:Int)) (I Dc (C:Int)) (Z ra (N src) rc) (Z na (N CL) nc) (Z pa (N PL) pc)):=by have h1:=Oe.o.trans (aL.mono Oe.o.size);exact h1.trans (aR.below h1.size (λb hb=>by omega))
     have fM:Wl (∃f:bq,Ending.returned (FN #[Z sa (N src) sc,Z dx (N A) D,EP d,Z L (N j) kc,Z P (N l) Q,Z W (N aH) X,Z da (N r) dc,Z ca (N (bV ts src (N src))) cc,I Dc (S:Int),I Dc (C:Int),Z ra (N src) rc,Z na (N CL) nc,Z pa (N PL) pc])=FR (FN (f.cells ts ⟨⟨sa,sc,src⟩,dx,D,A,d,⟨L,kc,j⟩,⟨P,Q,l⟩,⟨W,X,aH⟩,⟨da,dc,r⟩⟩))/\f.At ts ⟨⟨sa,sc,src⟩,dx,D,A,d,⟨L,kc,j⟩,⟨P,Q,l⟩,⟨W,X,aH⟩,⟨da,dc,r⟩⟩ (World.qB w5 (M (H w1)) (Z sa (N src) sc) (Z dx (N A) D) (EP d) (Z L (N j) kc) (Z P (N l) Q) (Z W (N aH) X) (Z da (N r) dc) (Z ca (N (bV ts src (N src))) cc) (I Dc (S:Int)) (I Dc (C:Int)) (Z ra (N src) rc) (Z na (N CL) nc) (Z pa (N PL) pc))/\f.New (M (H w))/\Bw w (World.qB w5 (M (H w1)) (Z sa (N src) sc) (Z dx (N A) D) (EP d) (Z L (N j) kc) (Z P (N l) Q) (Z W (N aH) X) (Z da (N r) dc) (Z ca (N (bV ts src (N src))) cc) (I Dc (S:Int)) (I Dc (C:Int)) (Z ra (N src) rc) (Z na (N CL) nc) (Z pa (N PL) pc))):=by
      refine⟨⟨ca,cc,ra,rc,na,N CL,nc,pa,N PL,pc⟩,?_,⟨?_,?_,?_,?_,?_,?_,?_⟩,⟨?_,?_,?_,?_⟩,df⟩
      .simp only[bq.cells,ae.val,iL];rw[<-HS.o,<-dn.o]
      .exact gz.o.below df
      .have dh:Kept (λb=>b≠M (H u)/\b≠M (H w1)) w4 (World.qB w5 (M (H w1)) (Z sa (N src) sc) (Z dx (N A) D) (EP d) (Z L (N j) kc) (Z P (N l) Q) (Z W (N aH) X) (Z da (N r) dc) (Z ca (N (bV ts src (N src))) cc) (I Dc (S:Int)) (I Dc (C:Int)) (Z ra (N src) rc) (Z na (N CL) nc) (Z pa (N PL) pc)):=(aJ.o.mono λ_ _ h=>h.1).trans (aR.mono λ_ _ h=>h.2);obtain⟨a,c,e,h⟩:=Hd (Xe pE.o dh (λg hg=>⟨λe=>rE Tryz.aaf pE.o HG.o (by rw[hg,e]),by have:=(Xf pE.o hg).1;omega⟩)) (by have:=sO.o;omega)
       cases e;exact h
      .have dh:Kept (λb=>b≠M (H u)/\b≠M (H w1)) w4 (World.qB w5 (M (H w1)) (Z sa (N src) sc) (Z dx (N A) D) (EP d) (Z L (N j) kc) (Z P (N l) Q) (Z W (N aH) X) (Z da (N r) dc) (Z ca (N (bV ts src (N src))) cc) (I Dc (S:Int)) (I Dc (C:Int)) (Z ra (N src) rc) (Z na (N CL) nc) (Z pa (N PL) pc)):=(aJ.o.mono λ_ _ h=>h.1).trans (aR.mono λ_ _ h=>h.2);obtain⟨a,c,e,h⟩:=uS (Xe Ls.o dh (λg hg=>⟨λe=>rE Tryz.Tt Ls.o HG.o (by rw[hg,e]),by have:=(Xf Ls.o hg).1;omega⟩)) (by rw[sF];omega);rw[sF]at e
       cases e;exact h
      .obtain⟨a,c,e,h⟩:=uS (aB (by omega) uY.o) (by rw[aC.o];omega)
       cases e;rw[<-fq.o];exact h
      .obtain⟨a,c,e,h⟩:=uS (aB (by omega) ai.o) (by rw[aF.o];omega)
       cases e;rw[<-fu.o];exact h
      .exact aC.o
      .exact aF.o
      .rintro a rfl;have:=(Xf pE.o (g:=a.block) rfl).1;omega
      .rintro a rfl;have:=(Xf Ls.o (g:=a.block) rfl).1;omega
      .rintro a rfl;have:=(Xf uY.o (g:=a.block) rfl).1;omega
      .rintro a rfl;have:=(Xf ai.o (g:=a.block) rfl).1;omega
     unfold World.qB at fM mG;obtain⟨bA,bB,bC,bD,bE,bF,bG,bH,bI,bK,bL,ek,ed⟩:=eB.zR;obtain⟨iU,iV,iY,iZ,ja,jb,jc,jd,je,jf,jg,jh,ji⟩:=zO.zR;have iC:=zO.frozen 0;have iD:=zO.frozen 1;have iE:=zO.frozen 2;have iF:=zO.frozen 3;have iG:=zO.frozen 4;have iH:=zO.frozen 5;have iI:=zO.frozen 6;have iJ:=zO.frozen 7;have iK:=zO.frozen 8;have iM:=zO.frozen 9;have iN:=zO.frozen 10;have iP:=zO.frozen 11;have iQ:=zO.frozen 12;clear eB zO aR aB df aI uY ai aJ HG pE Ls ib ic cO;go_wp2;exact X0 (nK (p:=4) rfl rfl mG.o) rfl fM.o
def CG(k:Int):Int:=if k=0∨k=1 then 0 else if 3<=k/\k<=5 then 2 else 1
def je(k:Int):Array Value:=#[I J (CG k),EP (decide (k=1)),EP (decide (2<=k/\k<=5)),EP (decide (k=4∨k=5)),EP (decide (k=6))]
def pG:List Value:=(List.range 11).flatMap λ(k:Nat)=>(je (k:Int)).toList
def dS(w:U)(g:Nat):Prop:=∀j u,pG[j]? = O u->Am w (aD g j)=O u
def dS.below{w w':U}{g:Nat}(hb:Bw w w')(h:dS w g):dS w' g:=λj u a=>cB hb (h j u a)
theorem dS.get{w:U}{g:Nat}(h:dS w g){k:Nat}(hk:k<=10) :
  Am w (aD g (0+k*5))=O (I J (CG k))/\Am w (aD g (0+k*5+1))=O (EP (decide ((k:Int)=1)))/\Am w (aD g (0+k*5+2))=O (EP (decide (2<=(k:Int)/\(k:Int)<=5)))/\
   Am w (aD g (0+k*5+3))=O (EP (decide ((k:Int)=4∨(k:Int)=5)))/\Am w (aD g (0+k*5+4))=O (EP (decide ((k:Int)=6))):=by
 have a:∀j,j<5->pG[k*5+j]? = (je (k:Int)).toList[j]?:=λj b=>by have:=lg (λ(k:Nat)=>(je (k:Int)).toList) 5 (λ_=>rfl) 0 (List.range 11) k j (by simp;omega) b;unfold pG;grind
 simp only[Q5];refine⟨h (k*5) _ ?_,h (k*5+1) _ ?_,h (k*5+2) _ ?_,h (k*5+3) _ ?_,h (k*5+4) _ ?_⟩
 .have:=a 0 (by omega);rw[Zp]at this;rw[this];rfl
 .rw[a 1 (by omega)];rfl
 .rw[a 2 (by omega)];rfl
 .rw[a 3 (by omega)];rfl
 .rw[a 4 (by omega)];rfl
theorem Ao{k:Int}(h1:1<=k):CG k=(arity k:Int):=by unfold CG arity;grind
def aS(n:ai):List Int:=[n.l,n.r].take (arity n.kind)
def CJ(n:ai)(w:U)(hs:dS w 0)(h1:1<=n.kind)(h10:n.kind<=10) :
  Calls V 52 #[FN n.cells] w λe B=>∃b,e=FR (Z (O (aD b 0)) (N (aS n)) 2)/\aA B (O (aD b 0)) (aS n)/\M (H w)<=b/\Bw w B:=by
 obtain⟨f,S,g,u⟩:=aX w n.cells 50;obtain⟨g0,g1,g2⟩:=u.k3;have d:Wl (aS n=[n.l,n.r].take (arity n.kind)):=rfl;have C:=Zh (Ao h1);have p:Wl (arity n.kind<=2):=by show _<=_;unfold arity;split <;> (try split) <;> omega
 have q:Wl (∀k:Nat,k<=10->_):=λk hk=>(hs.below g).get hk;have v:=Zh g;generalize n.cells=NC at*;generalize aS n=IL at*;obtain⟨nk,j,m,ns,W,X,aa⟩:=n;simp only at*;obtain⟨k,rfl⟩:=XD (show 0<=nk by omega);obtain⟨A,-⟩:=q.o k (by omega);rw[C.o]at A;have y:k<=10:=by omega
 have D:1<=k:=by omega
 generalize arity (k:Int)=ar at*;have G:=p.o;have L:Wl (∀x:U,aA (x.alloc (FL #[I J j,I J m] 3)) (O (aD (M (H x)) 0)) [j,m]):=λx=>Bb x [j,m] _ (by simp);rw[Q5]at A;have P:¬(11:Int)<=(k:Int):=by omega
 have z:(ar:Int)<=2:=by omega
 go_enter Tryz.func52,Tryz.ntmps52;go_wp2;refine wH f λa=>?_;refine wA4 0 a ?_;refine wA5 5 a ?_;refine wR 4 λK i=>?_;go_simp;refine oA i a λa=>?_;refine wR 10 λK i=>?_;go_simp;refine i.o _ _ a λa=>?_;refine wR 11 λK i=>?_;go_simp;refine i.o _ _ a λa=>?_;refine wD ?_;try simp only[pU]
 have Q:=Zh (aj v.o a);have R:Wl (aA ((f.alloc (FL #[I J j,I J m] 3)).drew) (O (aD (M (H f)) 0)) (IL)):=by show aA _ _ _;rw[d.o];exact aA.take (L.o f.drew) ar
 have t:Wl (N IL=ar):=by show _=_;rw[d.o,XK];simp;omega
 go_wp2;go_ret;exact⟨M (H f),by rw[t.o];rfl,R.o,v.o.size,Q.o⟩
def Jk:=@dS.below
def hasB(ar:Nat)(sb cb kb ob:Bool)(n:ai):List Bool:=
 [decide ((ar:Int)<1)&&(n.l != 0),decide ((ar:Int)<2)&&(n.r != 0),!sb&&(n.source != 0),!kb&&(n.key != 0),!cb&&decide (0<N n.cl.xs),!ob&&decide (0<N n.co.xs)]
theorem acT(n:ai):(!((hasB (arity n.kind) (decide (n.kind=1)) (decide (2<=n.kind/\n.kind<=5)) (decide (n.kind=4∨n.kind=5)) (decide (n.kind=6)) n).any id))=xh n:=by unfold hasB xh;rw[Zf];simp only[List.any_cons,List.any_nil,id,Bool.not_eq_true',Bool.or_eq_false_iff,Bool.and_eq_false_iff,Qz,QA,Bool.not_eq_false',bne_eq_false_iff_eq];grind
def KC(n:ai)(ar:Nat)(sb cb kb ob:Bool)(w:U)(hcl:N n.cl.xs<=1152921504606846976)(hco:N n.co.xs<=1152921504606846976) :
  Cb 98 #[FN n.cells,FN #[I J (ar:Int),EP sb,EP cb,EP kb,EP ob]] w (EP (!((hasB ar sb cb kb ob n).any id))):=by
 obtain⟨w1,aa,p,k⟩:=aX w n.cells 50;obtain⟨w2,af,q,t⟩:=aX w1 #[I J (ar:Int),EP sb,EP cb,EP kb,EP ob] 156;have g:=q;have m:=aj p g;have i:=k.of (g.block _ k.lt);have dX:=i.at 1;have dQ:=i.at 2;have dR:=i.at 3;have eu:=i.at 4;have eU:=i.at 5;have eH:=i.at 6;have K:=t;obtain⟨jr,jO,jP,kM,jQ⟩:=K.k5;have j:=Zh m;obtain⟨B1,y⟩:∃B,B=(decide ((ar:Int)<1)&&(n.l != 0)):=⟨_,rfl⟩;obtain⟨B2,z⟩:∃B,B=(decide ((ar:Int)<2)&&(n.r != 0)):=⟨_,rfl⟩;obtain⟨u,A⟩:∃B,B=(!sb&&(n.source != 0)):=⟨_,rfl⟩;obtain⟨B4,C⟩:∃B,B=(!kb&&(n.key != 0)):=⟨_,rfl⟩;obtain⟨B5,D⟩:∃B,B=(!cb&&decide (0<N n.cl.xs)):=⟨_,rfl⟩;obtain⟨v,G⟩:∃B,B=(!ob&&decide (0<N n.co.xs)):=⟨_,rfl⟩;have a:Wl (hasB ar sb cb kb ob n=[B1,B2,u,B4,B5,v]):=by show _=_;unfold hasB;rw[y,z,A,C,D,G]
 obtain⟨P,Q,R,S,W,X⟩:=Dm y z A C D G;generalize hasB ar sb cb kb ob n=L at*;generalize nT:n.cells=NC at*;clear y z A C D G nT k t i K p q m g;obtain⟨nk,nl,nr,ns,⟨na,nc,nx⟩,ny,⟨oa,oc,ox⟩⟩:=n;unfold ae.val at*;simp only at*;go_enter Tryz.func98,Tryz.ntmps98;go_upto_region 1 with fail;go_cut [5] from 6 to 13 (λc f=>c=EP B1/\f=w2)
 case first=>
  by_cases d:(ar:Int)<1
  .have b:B1=(nl != 0):=by rw[P.o,QD d,QE]
   go_wp2_with fail;go_meet;exact⟨by rw[b],rfl⟩
  .have b:B1=false:=by rw[P.o,QX d,XF]
   go_wp2_with fail;go_meet;exact⟨by rw[b],rfl⟩
 case rest=>
 obtain⟨rfl,rfl⟩:=hcut
 cases hB1:B1 with
 |true =>
  rw[hB1]at a;have e:Wl ((!L.any id)=F):=by show _=_;rw[a.o];simp
  clear a;go_wp2;go_ret;exact⟨Qd e.o.symm,j.o⟩
 |false =>
 rw[hB1]at a;clear hB1;go_upto_region 2 with fail;go_cut [5] from 14 to 21 (λc f=>c=EP B2/\f=wc)
 case first=>
  by_cases d:(ar:Int)<2
  .have b:B2=(nr != 0):=by rw[Q.o,QD d,QE]
   go_wp2_with fail;go_meet;exact⟨by rw[b],rfl⟩
  .have b:B2=false:=by rw[Q.o,QX d,XF]
   go_wp2_with fail;go_meet;exact⟨by rw[b],rfl⟩
 case rest=>
 obtain⟨rfl,rfl⟩:=hcut
 cases hB2:B2 with
 |true =>
  rw[hB2]at a;have e:Wl ((!L.any id)=F):=by show _=_;rw[a.o];simp
  clear a;go_wp2;go_ret;exact⟨Qd e.o.symm,j.o⟩
 |false =>
 rw[hB2]at a;clear hB2;go_upto_region 4 with fail;go_cut [22] from 23 to 30 (λc f=>c=EP u/\f=wc)
 case first=>
  cases d:sb with
  |false =>
   subst d;have b:u=(ns != 0):=by rw[R.o];rfl
   go_wp2_with fail;go_meet;exact⟨by rw[b],rfl⟩
  |true =>
   subst d;have b:u=false:=by rw[R.o];rfl
   go_wp2_with fail;go_meet;exact⟨by rw[b],rfl⟩
 case rest=>
 obtain⟨rfl,rfl⟩:=hcut
 cases hB3:u with
 |true =>
  rw[hB3]at a;have e:Wl ((!L.any id)=F):=by show _=_;rw[a.o];simp
  clear a;go_wp2;go_ret;exact⟨Qd e.o.symm,j.o⟩
 |false =>
 rw[hB3]at a;clear hB3;go_upto_region 5 with fail;go_cut [22] from 31 to 38 (λc f=>c=EP B4/\f=wc)
 case first=>
  cases d:kb with
  |false =>
   subst d;have b:B4=(ny != 0):=by rw[S.o];rfl
   go_wp2_with fail;go_meet;exact⟨by rw[b],rfl⟩
  |true =>
   subst d;have b:B4=false:=by rw[S.o];rfl
   go_wp2_with fail;go_meet;exact⟨by rw[b],rfl⟩
 case rest=>
 obtain⟨rfl,rfl⟩:=hcut
 cases hB4:B4 with
 |true =>
  rw[hB4]at a;have e:Wl ((!L.any id)=F):=by show _=_;rw[a.o];simp
  clear a;go_wp2;go_ret;exact⟨Qd e.o.symm,j.o⟩
 |false =>
 rw[hB4]at a;clear hB4;go_upto_region 7 with fail;go_cut [39] from 40 to 48 (λc f=>c=EP B5/\f=wc)
 case first=>
  cases d:cb with
  |false =>
   subst d;have b:B5=(decide (0<N nx)):=by rw[W.o];rfl
   go_wp2_with fail;go_meet;exact⟨by rw[b],rfl⟩
  |true =>
   subst d;have b:B5=false:=by rw[W.o];rfl
   go_wp2_with fail;go_meet;exact⟨by rw[b],rfl⟩
 case rest=>
 obtain⟨rfl,rfl⟩:=hcut
 cases Gf:B5 with
 |true =>
  rw[Gf]at a;have e:Wl ((!L.any id)=F):=by show _=_;rw[a.o];simp
  clear a;go_wp2;go_ret;exact⟨Qd e.o.symm,j.o⟩
 |false =>
 rw[Gf]at a;clear Gf;go_upto_region 8 with fail;go_cut [39] from 49 to 57 (λc f=>c=EP v/\f=wc)
 case first=>
  cases d:ob with
  |false =>
   subst d;have b:v=(decide (0<N ox)):=by rw[X.o];rfl
   go_wp2_with fail;go_meet;exact⟨by rw[b],rfl⟩
  |true =>
   subst d;have b:v=false:=by rw[X.o];rfl
   go_wp2_with fail;go_meet;exact⟨by rw[b],rfl⟩
 case rest=>
 obtain⟨rfl,rfl⟩:=hcut
 cases hB6:v with
 |true =>
  rw[hB6]at a;have e:Wl ((!L.any id)=F):=by show _=_;rw[a.o];simp
  clear a;go_wp2;go_ret;exact⟨Qd e.o.symm,j.o⟩
 |false =>
 rw[hB6]at a;clear hB6;have e:Wl ((!L.any id)=T):=by show _=_;rw[a.o];rfl
 clear a;go_wp2;go_ret;exact⟨Qd e.o.symm,j.o⟩
def Bo(pl:List ai)(i j:Nat):Nat:=dz i λm=>(nQ pl m).count j
def ME(pl:List ai)(i j:Nat):Bo pl (i+1) j=Bo pl i j+(nQ pl i).count j:=Zc _ _
theorem ajR(pl:List ai)(i:Nat):N (nQ pl i)<=2:=by unfold nQ;grind
def aah(pl:List ai)(j:Nat):∀i,Bo pl i j<=2*i
 |0=>by simp[Bo,dz]
 |i+1=>by rw[ME];have h1:=aah pl j i;have h2:(nQ pl i).count j<=N (nQ pl i):=List.count_le_length;have h3:=ajR pl i;omega
def sG(k:Int):arity k<=2:=by unfold arity;split <;> (try split) <;> omega
def qO(n:ai)(i:Nat):Bool:=(aS n).all λx=>decide (0<=x)&&decide (x<(i:Int))
def acU(n:ai)(i:Nat):eF n i=(decide (1<=n.kind)&&decide (n.kind<=10)&&xh n&&qO n i):=by
 unfold eF qO aS;have b:=sG n.kind;generalize arity n.kind=a at*;rw[Bool.and_assoc];congr 1
 match a,b with
 |0,_=>simp
 |1,_=>simp
 |2,_=>simp
def anC(h:qO (E pl i nz) i=T):nQ pl i=(aS (E pl i nz)).map Int.toNat:=by
 unfold qO aS at h;unfold nQ aS;simp only;have b:=sG (E pl i nz).kind;generalize arity (E pl i nz).kind=a at*
 match a,b with
 |0,_=>simp
 |1,_ =>
  simp at h;simp[h]
 |2,_ =>
  simp at h;simp[h]
def CQ(pl:List ai)(i m j:Nat):Nat:=Bo pl i j+(((aS (E pl i nz)).take m).map Int.toNat).count j
theorem acV(pl:List ai)(i:Nat)(hm:m<N (aS (E pl i nz)))(j:Nat):CQ pl i (m+1) j=CQ pl i m j+if j=(E (aS (E pl i nz)) m 0).toNat then 1 else 0:=by
 unfold CQ;generalize aS (E pl i nz)=L at*;have e:E L m 0=L[m]:=by simp[List.getD,hm]
 rw[Qh hm,Ql,List.count_append,e];grind
def acW(pl:List ai)(i j:Nat):CQ pl i 0 j=Bo pl i j:=by unfold CQ;simp
def agN(h:qO (E pl i nz) i=T)(j:Nat):CQ pl i (N (aS (E pl i nz))) j=Bo pl (i+1) j:=by unfold CQ;rw[Zb,ME,anC h]
def tZ(n:ai):N (aS n)<=2:=by unfold aS;rw[XK];simp;omega
theorem acX{n:ai}(hm:m<N (aS n))(h:E (aS n) m 0<0∨(i:Int)<=E (aS n) m 0):qO n i=false:=by unfold qO;rw[X5];refine⟨_,Xx hm (d:=0),?_⟩;grind
theorem acY{n:ai}{i:Nat}(h:∀m,m<N (aS n)->0<=E (aS n) m 0/\E (aS n) m 0<(i:Int)):qO n i=true:=by unfold qO;rw[Qn];intro x a;obtain⟨m,b,rfl⟩:=Qv a;grind
theorem agO{pl:List ai}{k:Nat}(hk:k<N pl)(h:eF (E pl k nz) k=F):dD pl=false:=by unfold dD;grind
theorem acZ(h1:1<=N pl)(h64:N pl<=64)(h:∀i,i<N pl->eF (E pl i nz) i=T):dD pl=xS pl:=by unfold dD;grind
def agP{pl:List ai}{k:Nat}(hk:k<N pl-1)(h:Bo pl (N pl) k≠1):xS pl=false:=by unfold xS;rw[X5];exact⟨k,Zk.2 hk,by show ¬decide (Bo pl (N pl) k=1)=T;rw[QX h];simp⟩
def ac0{pl:List ai}(h:∀k,k<N pl-1->Bo pl (N pl) k=1):xS pl=true:=by unfold xS;rw[Qn];exact λk a=>QD (h k (Zk.1 a))
def agQ(n:ai)(w:U)(h1:1<=n.kind)(hcl:N n.cl.xs<=1152921504606846976)(hco:N n.co.xs<=1152921504606846976) :
  Cb 98 #[FN n.cells,FN (je n.kind)] w (EP (xh n)):=by have h:=KC n (arity n.kind) (decide (n.kind=1)) (decide (2<=n.kind/\n.kind<=5)) (decide (n.kind=4∨n.kind=5)) (decide (n.kind=6)) w hcl hco;rw[acT]at h;unfold je;rw[Ao h1];exact h
theorem WB(po:Option Addr)(pc:Nat)(pl:List ai)(w:U)(hp:bT w po pl)(hs:dS w 0) :
  Cb 51 #[Z po (N pl) pc] w (EP (dD pl)):=by
 have bW:=hp.1;by_cases z0:N pl<1
 .have d:Wl (dD pl=F):=by show _=_;unfold dD;rw[QX (by omega)];rfl
  have aL:(N pl:Int)<1:=by omega
  generalize dD pl=R at*;clear hp hs;go_enter Tryz.func51,Tryz.ntmps51;go_wp2;go_ret;exact⟨Qd d.o.symm,Qr _ _⟩
 by_cases z1:64<N pl
 .have d:Wl (dD pl=F):=by show _=_;unfold dD;grind
  have bD:(64:Int)<(N pl:Int):=by omega
  have aL:¬(N pl:Int)<1:=by omega
  generalize dD pl=R at*;clear hp hs;go_enter Tryz.func51,Tryz.ntmps51;go_wp2;go_ret;exact⟨Qd d.o.symm,Qr _ _⟩
 have bE:=run_make_row' (P:=V) 23 3 (.int J 0) 8 Tryz.underlying23 Tryz.alC rfl J J (N pl) (by omega) (by omega);obtain⟨w1,au⟩:∃x,w.alloc (FL (madeCells #[.int J 0] (N pl)) 3)=x:=⟨_,rfl⟩;have aM:w1.rowIs (M (H w)) 3 (N pl) (λ_=>.int J 0):=by rw[<-au];exact World.rowIs_made _ _ _ _
 have aN:Bw w w1:=by rw[<-au];exact bJ _ _
 have bF:M (H w)<M (H w1):=by rw[<-au];simp
 have aA:Wl (∀x,Kept (λb=>b≠M (H w)) w1 x->Bw w x/\bT x po pl/\dS x 0):=λx hk=>by have W:=Below.trans aN (hk.below (Nat.le_of_lt bF) (λb W=>Nat.ne_of_lt W));exact⟨W,hp.below W,hs.below W⟩
 have aL:¬(N pl:Int)<1:=by omega
 have bD:¬(64:Int)<(N pl:Int):=by omega
 have B:Wl _:=@agO pl;have aO:=Zh (acZ (pl:=pl) (by omega) (by omega));have aP:Wl _:=@agP pl;have aQ:Wl _:=@ac0 pl;have Nl:=hd aM;have sO:Wl (∀i j,Bo pl i j<=2*i):=λi j=>aah pl j i;generalize dD pl=R at*;generalize xS pl=OB at*;clear hp hs aM aN z0 z1;go_enter Tryz.func51,Tryz.ntmps51;go_wp2;clear au bE;go_loopw [23] (λQ wr=>∃k:Nat,k<=N pl/\Q=I J k/\Wl (∀i,i<k->eF (E pl i nz) i=T)/\Wl (wr.rowIs (M (H w)) 3 (N pl) (λj=>I J ((Bo pl k j:Nat):Int)))/\Wl (Kept (λb=>b≠M (H w)) w1 wr)) (λQ _=>N pl-(intOf Q).toNat)
 case atStart=>exact⟨0,Q4 _,rfl,λj g=>absurd g (by omega),Nl.o,Zx _ _⟩
 case round=>
  obtain⟨k,hk,rfl,HJ,av,xI⟩:=hrel;obtain⟨ax,aH,aI⟩:=aA.o wr xI.o;by_cases bC:k<N pl
  .obtain⟨pb,cK,rfl,c0,c1,c2,c3,c4,c5,c6,i1,i2⟩:=aH.2 k bC;have C:Wl (eF (E pl k nz) k=F->R=F):=λe=>B.o bC e
   have Ma:Wl (eF (E pl k nz) k=T->∀i,i<k+1->eF (E pl i nz) i=T):=λh i hi=>by
    rcases XM i k with h'|h'
    .exact HJ.o i h'
    grind
   have f:=Zh (acU (E pl k nz) k);have q:Wl (∀m,m<N (aS (E pl k nz))->(E (aS (E pl k nz)) m 0<0∨(k:Int)<=E (aS (E pl k nz)) m 0)->qO (E pl k nz) k=F):=λm hm h=>acX hm h;have l:Wl _:=@acY (E pl k nz) k;have Ib:Wl (∀m,m<N (aS (E pl k nz))->∀j,CQ pl k (m+1) j=CQ pl k m j+if j=(E (aS (E pl k nz)) m 0).toNat then 1 else 0):=λm hm j=>acV pl k hm j;have Mr:Wl (qO (E pl k nz) k=T->∀j,CQ pl k (N (aS (E pl k nz))) j=Bo pl (k+1) j):=λh j=>agN h j;have Ij:Wl (∀m j,CQ pl k m j<=2*k+2):=λm j=>by unfold CQ;have h1:=sO.o k j;have h2:(((aS (E pl k nz)).take m).map Int.toNat).count j<=N (((aS (E pl k nz)).take m).map Int.toNat):=List.count_le_length;rw[Q8,XK]at h2;have h3:=tZ (E pl k nz);omega
   have aB:Wl (wr.rowIs (M (H w)) 3 (N pl) (λj=>I J ((CQ pl k 0 j:Nat):Int))):=av.o.congr (λj _=>by rw[acW]);have aa:Wl (∀x,1<=(E pl k nz).kind->_):=λx h1=>agQ (E pl k nz) x h1 i1.1 i2.1;have af:Wl (∀x,dS x 0->1<=(E pl k nz).kind->(E pl k nz).kind<=10->_):=λx hs h1 bU=>CJ (E pl k nz) x hs h1 bU;have bG:=Zh (tZ (E pl k nz));generalize aS (E pl k nz)=L at*;generalize qO (E pl k nz) k=AB at*;generalize eF (E pl k nz) k=SB at*;generalize xh (E pl k nz)=MB at*;generalize CQ pl k=CI at*;generalize E pl k nz=n at*;obtain⟨nk,nl,nr,ns,⟨na,nc,nx⟩,ny,⟨oa,oc,ox⟩⟩:=n;unfold ai.cells ae.val at*;simp only at*;clear i1 i2 HJ av B aH;obtain⟨wb,bN,ay,bq⟩:=aX wr #[I J nk,I J nl,I J nr,I J ns,Z na (N nx) nc,I J ny,Z oa (N ox) oc] 50;obtain⟨S,m1,m2,m3,m4,m5,m6⟩:=bq.k7;obtain⟨Kg,lZ,UA⟩:=fe (aj ax ay) ay (aI.below ay);clear bq ay ax aI;by_cases b1:nk<1
   .have d:=Zh (C.o (by rw[f.o,QX (by omega)];rfl));clear f C Ma q l Ib Mr Ij aa af;go_wp2;refine Qw ?_;refine qA4 ?_;go_big_quiet_skip
    try simp only[pU]
    iterate 2 (go_big_quiet_skip;try simp only[pU])
    refine Gw ?_;go_big_quiet_skip;try simp only[pU]
    iterate 6 (go_big_quiet_skip;try simp only[pU])
    refine lQ ?_;refine XH ?_;intro w2 a;have D:=Zh (aj Kg.o a);clear a;go_wp2;go_ret;exact⟨Qd d.o.symm,D.o⟩
   by_cases b2:10<nk
   .have d:=Zh (C.o (by rw[f.o,QX (show ¬nk<=10 by omega),XZ];rfl));clear f C Ma q l Ib Mr Ij aa af;go_wp2;refine Qw ?_;refine lQ ?_;refine qC (I J nk) S ?_;refine qS (EP F) ?_;refine qS (EP F) ?_;refine lQ ?_;refine qC (I J nk) S ?_;refine qS (EP T) ?_;refine qS (EP T) ?_;go_big_quiet_want;refine⟨EP T,λx hx=>?_,?_⟩
    .go_simp
    simp only[pU];go_big_quiet_on;go_big_quiet_skip;try simp only[pU]
    iterate 6 (go_big_quiet_skip;try simp only[pU])
    refine lQ ?_;refine XH ?_;intro w2 a;have D:=Zh (aj Kg.o a);clear a;go_wp2;go_ret;exact⟨Qd d.o.symm,D.o⟩
   have ag:=λx=>aa.o x (by omega);have aC:=λx hs=>af.o x hs (by omega) (by omega);obtain⟨K,rfl⟩:=XD (show 0<=nk by omega);have bH:K<=10:=by omega
   obtain⟨t0,t1,t2,t3,t4⟩:=dS.get UA.o bH;obtain⟨s0,s1,s2,s3,s4,bu,e0,e1,e2,e3,e4⟩:∃s0 s1 s2 s3 s4,je (K:Int)=#[s0,s1,s2,s3,s4]/\s0=I J (CG K)/\s1=EP (decide ((K:Int)=1))/\s2=EP (decide (2<=(K:Int)/\(K:Int)<=5))/\s3=EP (decide ((K:Int)=4∨(K:Int)=5))/\s4=EP (decide ((K:Int)=6)):=⟨_,_,_,_,_,rfl,rfl,rfl,rfl,rfl,rfl⟩;rw[<-e0]at t0;rw[<-e1]at t1;rw[<-e2]at t2;rw[<-e3]at t3;rw[<-e4]at t4;rw[Q5]at t0 t1 t2 t3 t4;rw[bu]at ag;have aR:decide (1<=(K:Int))=true:=QD (by omega);have aT:decide ((K:Int)<=10)=true:=QD (by omega);rw[aR,aT]at f;clear e0 e1 e2 e3 e4 bu aa af aR aT;have bX:¬(11:Int)<=(K:Int):=by omega
   cases MB with
   |false =>
    have d:=Zh (C.o (by rw[f.o];rfl));clear f C Ma q l Ib Mr Ij aC;go_wp2;refine Qw ?_;refine lQ ?_;refine qC (I J (K:Int)) S ?_;refine qS (EP F) ?_;refine qS (EP F) ?_;refine lQ ?_;refine qC (I J (K:Int)) S ?_;refine qS (EP F) ?_;refine qS (EP F) ?_;refine qS (EP F) ?_;refine Gw ?_;refine qC (I J (K:Int)) S ?_;refine Gw ?_;go_big_quiet_want;refine⟨EP F,λx hx=>?_,?_⟩
    .have hC:=Qx hx (ag x);go_simp
    simp only[pU];go_big_quiet_on;refine Gw ?_;refine XH ?_;intro w2 a;have D:=Zh (aj Kg.o a);clear a;go_wp2;go_ret;exact⟨Qd d.o.symm,D.o⟩
   |true =>
    have aU:Wl (SB=AB):=by show _=_;rw[f.o];rfl
    clear f;have f:=Zh aU.o;clear aU;go_wp2;refine Qw ?_;refine lQ ?_;refine qC (I J (K:Int)) S ?_;refine qS (EP F) ?_;refine qS (EP F) ?_;refine lQ ?_;refine qC (I J (K:Int)) S ?_;refine qS (EP F) ?_;refine qS (EP F) ?_;refine qS (EP F) ?_;refine Gw ?_;refine qC (I J (K:Int)) S ?_;refine Gw ?_;go_big_quiet_want;refine⟨EP T,λx hx=>?_,?_⟩
    .have hC:=Qx hx (ag x);go_simp
    simp only[pU];go_big_quiet_on;refine Gw ?_;refine XH ?_;intro w2 a;obtain⟨q0,q1,q2,q3,q4⟩:=ji a S m1 m2 m3 m4;obtain⟨q5,q6⟩:=gy a m5 m6;have aW:=aC w2 (Jk a UA.o);obtain⟨ry,az⟩:=aV (xI.o.trans (ZA (aj lZ.o a) (λb W _=>W))) (aB.o.of_block ((aj lZ.o a).block _ aB.o.lt));clear a ag aC S m1 m2 m3 m4 m5 m6 t0 t1 t2 t3 t4 aB UA lZ bN c0 c1 c2 c3 c4 c5 c6;go_wp2_with fail;refine XO aW ?_;clear aW q0 q1 q2 q3 q4 q5 q6;rintro e w3 ⟨ib,rfl,bz,bO,aJ⟩;obtain⟨F3,bP⟩:=aV (ry.o.trans (ZA aJ (λb W _=>W))) (az.o.of_block (aJ.block _ az.o.lt));have bI:ib≠M (H w):=by have:=az.o.lt;omega
    have Uw:Wl _:=bz;have bY:=bG.o;clear bz bO aJ ry az;go_wp2;go_loopw [48] (λQ wx=>∃m:Nat,m<=N L/\Q=I J m/\Wl (∀j,j<m->0<=E L j 0/\E L j 0<(k:Int))/\Wl (wx.rowIs (M (H w)) 3 (N pl) (λj=>I J ((CI m j:Nat):Int)))/\Wl (Kept (λb=>b≠M (H w)) w3 wx)) (λQ _=>N L-(intOf Q).toNat)
    case atStart=>exact⟨0,Q4 _,rfl,λj g=>absurd g (by omega),bP.o,Zx _ _⟩
    case round=>
     obtain⟨m,hm,rfl,p,t,Mk⟩:=hrel;by_cases A:m<N L
     .obtain⟨cO,io,ei,bA⟩:=Qg Uw.o A
      cases ei;have aY:=ZY (bA m A) Mk.o bI;rw[Q5]at aY;obtain⟨y,z⟩:=aV (q.o m A) (Ib.o m A);have ah:Wl _:=λj=>Ij.o m j;have r:Wl (∀x,x=E L m 0->0<=x->x<(k:Int)->∀j,j<m+1->0<=E L j 0/\E L j 0<(k:Int)):=λx hx h0 h1 j g=>by
       rcases XM j m with h'|h'
       .exact p.o j h'
       .obtain rfl:j=m:=by omega
        rw[<-hx];exact⟨h0,h1⟩
      have Ga:=Zh ((aA.o wr (F3.o.trans Mk.o)).1);clear bA p q Ib Ij;obtain⟨x,aK⟩:=eY (E L m 0);rw[<-aK]at aY y z;have ak:=Zh (r.o x aK);clear aK r;by_cases x0:x<0
      .have d:=Zh (C.o (by rw[f.o,y.o (.inl x0)]));clear f C Ma l Mr y z ah ak;go_wp2;go_ret;exact⟨Qd d.o.symm,Ga.o⟩
      by_cases x1:(k:Int)<=x
      .have d:=Zh (C.o (by rw[f.o,y.o (.inr x1)]));clear f C Ma l Mr y z ah ak;go_wp2;go_ret;exact⟨Qd d.o.symm,Ga.o⟩
      obtain⟨X,rfl⟩:=XD (show 0<=x by omega);have hX:X<N pl:=by omega
      have aZ:=t.o.cell hX;have bZ:=t.o.frozen X;have bf:=ah.o X;rw[Xu]at z;have Rw:Wl (∀v:Nat,v=CI m X+1->(qw wr (aD (M (H w)) X) (I J (v:Int))).rowIs (M (H w)) 3 (N pl) (λj=>I J ((CI (m+1) j:Nat):Int))):=λv hv=>
       (t.o.set X (I J (v:Int))).congr (λj _=>by
        show (if j=X then _ else _)=_;rw[z.o j];by_cases g:j=X
        .rw[Qu g,Qu g,g,hv]
        .rw[QC g,QC g,Zp])
      have bK:=Zh (ak.o (by omega) (by omega));obtain⟨u,hu⟩:=eY (CI m X);rw[<-hu]at aZ bf Rw;have cu:u<=200:=by omega
      have bg:Wl (Kept (λb=>b≠M (H w)) w3 (qw wr (aD (M (H w)) X) (I J ((u+1:Nat):Int)))):=Mk.o.trans (Xc _ _ _ (λh=>h rfl));have bn:Wl _:=Rw.o (u+1) rfl;clear hu t z ah Rw y ak bf;have G:((u+1:Nat):Int)=(u:Int)+1:=by omega
      rw[G]at bg bn;clear G;go_wp2;go_roundw
      case rel=>exact⟨m+1,by omega,by go_num,bK.o,bn.o,bg.o⟩
      case measure=>simp[intOf];omega
     .obtain rfl:m=N L:=by omega
      have aF:=l.o p.o;obtain⟨bQ,bR,bS⟩:=fe (Ma.o (by rw[f.o,aF])) (t.o.congr (λj _=>by rw[Mr.o aF j])) (F3.o.trans Mk.o);clear aF l Ma f Mr t Mk p C q Ib Ij;go_wp2;go_roundw
      case rel=>exact⟨k+1,by omega,by go_num,bQ.o,bR.o,bS.o⟩
      case measure=>simp[intOf];omega
  .obtain rfl:k=N pl:=by omega
   obtain⟨d,bB⟩:=aV (aO.o HJ.o) ax;have bL:Wl (∀j,j<N pl->Am wr (aD (M (H w)) j)=O (I J ((Bo pl (N pl) j:Nat):Int))):=λj g=>av.o.cell g;clear B aO HJ av xI ax aH aI aA Nl;generalize Bo pl (N pl)=CN at*;obtain⟨Nq,hN⟩:=eX (N pl-1);have bV:(N pl:Int)-1=(Nq:Int):=by omega
   have cz:Nq<=N pl:=by omega
   rw[hN]at aP aQ;have uY:=Zh hN;clear hN;go_wp2;go_loop [73] (λQ=>∃m:Nat,m<=Nq/\Q=I J m/\Wl (∀j,j<m->CN j=1)) (λQ=>Nq-(intOf Q).toNat)
   case atStart=>exact⟨0,Q4 _,rfl,λj g=>absurd g (by omega)⟩
   case round=>
    obtain⟨m,hm,rfl,p⟩:=hrel;by_cases A:m<Nq
    .have aZ:=bL.o m (by have:=uY.o;omega);have aG:=Zh (aP.o A);have r:Wl (CN m=1->∀j,j<m+1->CN j=1):=λh j g=>by
      rcases XM j m with h'|h'
      .exact p.o j h'
      .obtain rfl:j=m:=by omega
       exact h
     generalize CN m=c at*;by_cases hc:c=1
     .have HT:=Zh (r.o hc);have bM:((c:Int) != 1)=false:=by rw[hc];rfl
      clear r hc aG;go_wp2;go_round
      case rel=>exact⟨m+1,by omega,by go_num,HT.o⟩
      case measure=>simp[intOf];omega
     .have FU:Wl (R=F):=by show _=_;rw[d.o];exact aG.o hc
      have bM:((c:Int) != 1)=true:=by rw[bne_iff_ne];omega
      clear r hc aG;go_wp2;go_ret;exact⟨Qd FU.o.symm,bB.o⟩
    .have FU:Wl (R=T):=by show _=_;rw[d.o];exact aQ.o (λj g=>p.o j (by omega))
     go_wp2;go_ret;exact⟨Qd FU.o.symm,bB.o⟩
def IP{ts:List ag}{q:af}{pl:List ai}{k:Nat}(h:gP ts q pl k=E5):∀m,k<=m->gP ts q pl m=E5
 |0,hm=>by simp_all
 |m+1,hm=>by
  by_cases e:k=m+1
  .simp_all
  .show (gP ts q pl m).bind _=E5
   rw[IP h m (by omega)];rfl
def eO(n:ai)(ps:List aK):List aK:=(aS n).map λx=>E ps x.toNat bz
theorem yL(n:ai)(ps:List aK):N (eO n ps)=N (aS n):=by grind [eO]
def pY(n:ai):N (aS n)=arity n.kind:=by unfold aS;rw[XK];have:=sG n.kind;simp;omega
def sH{α β:Type}(f:α->β)(l:List α)(i:Nat)(z:α):E (l.map f) i (f z)=f (E l i z):=by simp_all
def alD(n:ai)(ps:List aK):(E (eO n ps) 0 bz).d=xR n (ps.map aK.d):=by
 unfold eO aS xR;have a:=sG n.kind;rcases (by omega:arity n.kind=0∨arity n.kind=1∨arity n.kind=2) with h|h|h <;> rw[h]
 .rfl
 .show (E ps n.l.toNat bz).d=_
  rw[Qu (by omega)];exact(sH aK.d ps n.l.toNat bz).symm
 .show (E ps n.l.toNat bz).d=_
  rw[Qu (by omega)];exact(sH aK.d ps n.l.toNat bz).symm
def alE(n:ai)(ps:List aK):(E (eO n ps) 1 bz).d=uN n (ps.map aK.d):=by
 unfold eO aS uN;have a:=sG n.kind;rcases (by omega:arity n.kind=0∨arity n.kind=1∨arity n.kind=2) with h|h|h <;> rw[h]
 .rfl
 .rfl
 .show (E ps n.r.toNat bz).d=_
  rw[Qu rfl];exact(sH aK.d ps n.r.toNat bz).symm
theorem WC(n:ai)(ps:List aK):nA n.kind (eO n ps)=AJ n.kind (xR n (ps.map aK.d)) (uN n (ps.map aK.d)):=by
 rw[<-alD,<-alE];have b:=sG n.kind;have e:∀{k:Int},arity k=2->decide (k=10)=false:=λ{k} h=>by unfold arity at h;grind
 have a:∀{k:Int},arity k=0->decide (k=10)=false:=λ{k} h=>by unfold arity at h;grind
 unfold eO aS AJ nA;rcases (by omega:arity n.kind=0∨arity n.kind=1∨arity n.kind=2) with h|h|h
 .rw[h,a h];rfl
 .rw[h];rfl
 .rw[h]
  show (([E ps n.l.toNat bz,E ps n.r.toNat bz]:List aK).all _)=_;simp only[List.all_cons,List.all_nil,Bool.and_true];show _=((il (E ps n.l.toNat bz).kind==decide (n.kind=10)) && !il (E ps n.r.toNat bz).kind);simp_all
def step_eq(ts:List ag)(q:af)(n:ai)(ps:List aK):sZ ts q n (ps.map aK.d)=if (nA n.kind (eO n ps)&&dA ts q n (E (eO n ps) 0 bz).d (E (eO n ps) 1 bz).d)=T then O (ps.map aK.d++[xQ ts q n (E (eO n ps) 0 bz).d (E (eO n ps) 1 bz).d]) else none:=by unfold sZ;rw[WC,alD,alE]
def agS(h:dD pl=T):1<=N pl/\N pl<=64/\∀i,i<N pl->eF (E pl i nz) i=true:=by unfold dD at h;simp_all
theorem IQ{n:ai}(h:eF n i=T):1<=n.kind/\n.kind<=10/\∀m,m<N (aS n)->0<=E (aS n) m 0/\E (aS n) m 0<(i:Int):=by
 unfold eF at h;simp only[Qm,Bool.or_eq_true,Qz]at h;obtain⟨⟨⟨⟨b,a⟩,_⟩,j⟩,k⟩:=h;refine⟨b,a,λm d=>?_⟩;rw[pY]at d;have e:=sG n.kind;have f:0<arity n.kind->E (aS n) 0 0=n.l:=λh=>by unfold aS;simp_all
 have g:1<arity n.kind->E (aS n) 1 0=n.r:=λh=>by unfold aS;simp_all
 grind
theorem WE{n:ai}{i:Nat}(h:eF n i=T)(ho:il n.kind=T):0<=n.l/\n.l<(i:Int):=by
 obtain⟨g,b,d⟩:=IQ h;have e:7<=n.kind:=by unfold il at ho;simp_all
 have a:arity n.kind=1:=by unfold arity;grind
 have:=d 0 (by rw[pY,a];omega);have f:E (aS n) 0 0=n.l:=by unfold aS;rw[a];rfl
 omega
theorem agT{n:ai}{ps:List aK}(hm:m<N (aS n)):(eO n ps).take (m+1)=(eO n ps).take m++[E ps (E (aS n) m 0).toNat bz]:=by grind [eO,List.take_succ_eq_append_getElem]
