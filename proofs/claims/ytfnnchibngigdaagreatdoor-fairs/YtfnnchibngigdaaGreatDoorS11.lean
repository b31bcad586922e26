import Derived.Test.YtfnnchibngigdaaGreatDoorS07
import Derived.Test.YtfnnchibngigdaaGreatDoorS09
set_option linter.all false
set_option maxRecDepth 100000
set_option maxHeartbeats 0
namespace Go.Proofs.Zz
open Go.RowKit Go.Shelf Go.Proofs.Tryz
open List renaming length->N,getD->E
open Go.Value renaming slice->Z,int->I,bool->Qo
open Option renaming some->O
open Go.IntKind renaming i64->J,u64->Qn
open Bool renaming false->F,true->T
open Go renaming World->U
open Go.World renaming heap->H,cell?->Qm
open _root_.Array renaming size->M
open Go.RowKit renaming Hid->Qk
variable {l:KJ} {ts:Qu af} {q:ae} {e t:TypeId} {b base i n n' s sz:Nat} {v v':Value} {xs xs':Qu Value} {W:U}
def oD(n:Nat)(hn:n<=64)(w:U) :
  Ce 44 #[I J (n:Int)] w (I Qn ((2 ^ n-1:Nat):Int)):=by
 rcases Xv n 64 with h|h
 .exact Ai n h w
 .obtain rfl:n=64:=X
  go_enter func44,ntmps44;go_wp2;go_ret;exact⟨rfl,rfl⟩
def Ik(ao:JW)(cap:Nat)(ts:Qu af)(q:ae)(w:U)(hx:aI w ao ts)(hc:bQ ts=F) :
  Cb 14 #[Z ao (N ts) cap,.agg q.cells] w (I J (q.check ts)):=by
 have d:Qk ((1:Int)=q.check ts):=ae.xH hc;have a:=λo=>hx.below (bz w o);generalize q.check ts=R at*;generalize b:q.cells=C at*;have f:C.size=7:=by rw[<-b];rfl
 unfold ae.cells ai.val at b;subst b;go_enter func14,ntmps14;go_wp2_with (go_at_call 25;refine(iP _ _ _ _ (a _)).mono ?_;rw[hc];rintro e g ⟨rfl,i⟩);go_ret;exact⟨QW d.o,ah (bz _ _) (by assumption)⟩
def Im(ao:JW)(cap:Nat)(ts:Qu af)(q:ae)(w:U)(hx:aI w ao ts)(hq:q.At w)(hc:bQ ts=T)
  (hf:¬(5<N q.src.xs∨8<N q.wh∨8<N q.ay.xs∨4<N q.keys.xs∨4<N q.sums.xs∨4<N q.ord.xs)) (hw:fH q.wh (N q.wh)=T) :
  Cb 14 #[Z ao (N ts) cap,.agg q.cells] w (I J (q.check ts)):=by
 have C:=Zh (ae.oL hc (EY (by rw[rf];exact hw)));have t:=λo=>hx.below (bz w o);have d:=hq.wh;generalize q.check ts=R at*;clear hq;obtain⟨y,bF,aG,a,z,m,n,G,A⟩:=q;simp only at hf d hw;unfold ae.cells ai.val;simp only;have P:¬5<N y.xs:=X;have Q:¬8<N a:=X;have S:¬8<N G.xs:=X;have W:¬4<N m.xs:=X;have h5:¬4<N n.xs:=X;have h6:¬4<N A.xs:=X;have D:=Zh hw;clear hf hw;go_enter func14,ntmps14;go_wp2_with (go_at_call 25;refine(iP _ _ _ _ (t _)).mono ?_;rw[hc];rintro e w' ⟨rfl,B⟩;have g:=lZ B;simp at g);go_loop [6,7] (λf i=>∃k:Nat,k<=N a/\i=I J k/\f=Qo (fH a k)) (λ_ i=>N a-(intOf i).toNat)
 case atStart=>exact⟨0,ZP _,rfl,by simp[fH];omega⟩
 case round=>
  obtain⟨k,hk,rfl,rfl⟩:=hrel;by_cases l:k<N a
  .have p:=Cg l;obtain⟨b,K,rfl,j⟩:=d.2.1.get l;have u:=cB (ah (bz _ _) B) (j k l);unfold aA.val at u;generalize (E a k lz).ad=ad,(E a k lz).cap=cp,(E a k lz).cs.length=cl at*
   cases hb0:fH a k
   .have r:=Zh (show fH a (k+1)=decide (3<cl) by rw[p,hb0,Bool.false_or]);clear p hb0 j d;by_cases L:3<cl
    .go_wp2;go_round
     case rel=>exact⟨k+1,X,Qf,kF (by rw[r.o];simp;omega)⟩
     case measure=>exact Qw
    .go_wp2;go_round
     case rel=>exact⟨k+1,X,Qf,kF (by rw[r.o];simp;omega)⟩
     case measure=>exact Qw
   .have r:=Zh (show fH a (k+1)=T by rw[p,hb0,Bool.true_or]);clear p hb0 j d;go_wp2;go_round
    case rel=>exact⟨k+1,X,Qf,by rw[r.o]⟩
    case measure=>exact Qw
  .have v:k=N a:=X
   subst v;rw[D.o];go_wp2;go_ret;exact⟨QW C.o,ah (bz _ _) B⟩
def Ld(ao:JW)(cap:Nat)(ts:Qu af)(q:ae)(w:U)(hx:aI w ao ts)(hq:q.At w)(hc:bQ ts=T)
  (hf:¬(5<N q.src.xs∨8<N q.wh∨8<N q.ay.xs∨4<N q.keys.xs∨4<N q.sums.xs∨4<N q.ord.xs)) (hw:fH q.wh (N q.wh)=F) :
  Cb 14 #[Z ao (N ts) cap,.agg q.cells] w (I J (q.check ts)):=by
 have B:fw q.src.xs q.kE q.keys.xs q.sums.xs q.ay.xs q.ord.xs=false:=I9 (by simpa [ae.kE] using hf) (by rw[rf];exact hw);have P:=@ae.EZ q ts hc B;have tJ:=@ae.Ja q ts hc B;have yA:=@pQ q (ax ts q.src.xs);have Mg:=@nV q (ax ts q.src.xs);have aC:=λo=>hx.below (bz w o);have NZ:=@Ch q.wh;generalize hR:q.check ts=R at*;generalize aU:q.cells=C at*;have aj:=aU.symm;obtain⟨g,bF,aG,r,n,a,d,t,l⟩:=q;have V4:=aj;unfold ae.cells ai.val at V4;subst V4;simp only at hf hw P tJ yA Mg NZ;have Q:IntsAt w g.ad g.xs:=hq.src;have S:IntsAt w a.ad a.xs:=hq.keys;have EO:IntsAt w d.ad d.xs:=hq.sums;have az:IntsAt w t.ad t.xs:=hq.ay;have jP:IntsAt w l.ad l.xs:=hq.ord;have MZ:bM w bF r:=hq.wh;clear hq;have h1:¬5<N g.xs:=X;have h2:¬8<N r:=X;have h3:¬8<N t.xs:=X;have h4:¬4<N a.xs:=X;have h5:¬4<N d.xs:=X;have h6:¬4<N l.xs:=X;have HW:Qk (∀k,k<N r->(E r k lz).cs.length<=3):=λk hk=>NZ hk hw;obtain⟨Ta,aM⟩:=bV P tJ;have aH:Qk (∀{k:Nat},k<N r->dD (E r k lz).cs (ax ts g.xs)=F->_):=yA;obtain⟨Pe,X0⟩:=bV Mg aj;clear hf hw NZ P tJ yA Mg aj B hR;go_enter func14,ntmps14;go_wp2_with (go_at_call 25;refine(iP _ _ _ _ (aC _)).mono ?_;rw[hc];rintro e w' ⟨rfl,hb⟩;have p:=lZ hb;simp at p);go_loop [6,7] (λf i=>∃k:Nat,k<=N r/\i=I J k/\f=Qo F) (λ_ i=>N r-(intOf i).toNat)
 case atStart=>exact⟨0,ZP _,rfl,kF Qi⟩
 case round=>
  obtain⟨k,hk,rfl,rfl⟩:=hrel;by_cases A:k<N r
  .have aY:=HW.o k A;obtain⟨b,aN,rfl,au⟩:=MZ.2.1.get A;have G:=cB (ah (bz _ _) hb) (au k A);unfold aA.val at G;generalize (E r k lz).ad=ad,(E r k lz).cap=cp,(E r k lz).cs.length=cl at*;have aZ:¬3<cl:=X
   go_wp2;go_round
   case rel=>exact⟨k+1,X,Qf,kF Qi⟩
   case measure=>exact Qw
  .have hz:M (H w)<M (H w'):=by have:=hb.size;simp at this;omega
   have D:=ah (bz _ _) hb;by_cases ha:aP g.xs (N ts)=T
   .go_wp2_with fail;have u:=lQ g.ad g.cap g.xs (N ts) w' (Q.below D);rw[ha]at u;refine u.mono ?_;rintro e w2 ⟨rfl,rfl⟩;by_cases h0:N g.xs=0
    .have HF:=Zh (Ta.o (λh=>Qj h.2.1));go_wp2;go_ret;exact⟨QW HF.o,D⟩
    .have bf:((N g.xs:Int)==0)=false:=by simpa using h0
     have hn:=ed hc ha _ (Q6 (N g.xs));rw[ZV]at hn;have aJ:=hn.1;have aK:ax ts g.xs<=1000:=X;have u:=yt ao cap ts ⟨g,bF,aG,r,n,a,d,t,l⟩ w2 (hx.below D) hc (Q.below D) (by simp only;omega) ha;unfold ae.cells ai.val at u;simp only at u;generalize hN:ax ts g.xs=Nq at*;go_wp2_with fail;refine u.mono ?_;rintro e w3 ⟨rfl,y⟩;have Le:=ah D y;have f0:Qm w3 (aD (M (H w)) 0)=O (Z g.ad (N g.xs) g.cap):=cB y (by rw[p _ _ X];simp);have f1:Qm w3 (aD (M (H w)) 1)=O (Z bF (N r) aG):=cB y (by rw[p _ _ X];simp);have f2:Qm w3 (aD (M (H w)) 2)=O (Qo n):=cB y (by rw[p _ _ X];simp);have f3:Qm w3 (aD (M (H w)) 3)=O (Z a.ad (N a.xs) a.cap):=cB y (by rw[p _ _ X];simp);have f4:Qm w3 (aD (M (H w)) 4)=O (Z d.ad (N d.xs) d.cap):=cB y (by rw[p _ _ X];simp);have f5:Qm w3 (aD (M (H w)) 5)=O (Z t.ad (N t.xs) t.cap):=cB y (by rw[p _ _ X];simp);have f6:Qm w3 (aD (M (H w)) 6)=O (Z l.ad (N l.xs) l.cap):=cB y (by rw[p _ _ X];simp);go_wp2_with fail;go_loopw [10] (λi wr=>∃k:Nat,k<=N r/\i=I J k/\Qk (∀j,j<k->dD (E r j lz).cs Nq=T)/\Bw w3 wr) (λi _=>N r-(intOf i).toNat)
     case atStart=>exact⟨0,ZP _,rfl,λj hj=>absurd hj X,Q5 _ _⟩
     case round=>
      obtain⟨k,hk,rfl,HP,L⟩:=hrel;have g1:=cB L f1;by_cases A:k<N r
      .obtain⟨b,aN,rfl,au⟩:=MZ.2.1.get A;have G:=cB Le (au k A);have ak:=(MZ.2.2 k A).below Le;have Vg:Qk (dD (E r k lz).cs Nq=F->(3:Int)=R):=λaO=>Ta.o (λh=>by have:=h.2.2.1;rw[aH.o A aO]at this;cases this)
       generalize aV:E r k lz=cl at*;have Bc:=Zh aV;obtain⟨ad,cp,cs⟩:=cl;unfold aA.val at G;simp only at G ak;have Dn:=ak.1;have gk:=cB L G;go_wp2;go_loopw [11] (λi aQ=>∃m:Nat,m<=N cs/\i=I J m/\Qk (∀j,j<m->dn (E cs j cz) Nq=T)/\Bw w3 aQ) (λi _=>N cs-(intOf i).toNat)
       case atStart=>exact⟨0,ZP _,rfl,λj hj=>absurd hj X,L⟩
       case round=>
        obtain⟨m,hm,rfl,HM,jR⟩:=hrel;obtain⟨g1,gk⟩:=iA jR f1 G;by_cases yY:m<N cs
        .obtain⟨b2,bg,rfl,c0,c1,c2,c3,c4⟩:=ak.2 m yY;obtain⟨d0,d1,d2,d3,d4⟩:=gM jR c0 c1 c2 c3 c4;have u:=CG (E cs m cz) Nq wr aJ aK;unfold aF.val at u;generalize aW:E cs m cz=cc at*;have Vi:=Zh aW
         cases hcb:dn cc Nq
         .rw[hcb]at u;have HF:=Zh (Vg.o (sH yY (by rw[Vi.o];exact hcb)));go_wp2_with fail;refine u.mono ?_;rintro e w4 ⟨rfl,av⟩;go_wp2;go_ret;exact⟨QW HF.o,ah Le (ah jR av)⟩
         .rw[hcb]at u;have Rv:=Zh hcb;go_wp2_with fail;refine u.mono ?_;rintro e w4 ⟨rfl,av⟩;go_wp2;go_roundw
          case rel=>
           refine⟨m+1,X,Qf,λj hj=>?_,ah jR av⟩;by_cases aR:j=m
           .subst aR;rw[Vi.o];exact Rv.o
           .exact HM.o j X
          case measure=>exact Qw
        .by_cases aS:N cs=0
         .have HF:=Zh (Vg.o (pR X));go_wp2;go_ret;exact⟨QW HF.o,ah Le jR⟩
         .have aX:((N cs:Int)==0)=false:=by simpa using aS
          have HG:=Zh (pV X (λj hj=>HM.o j X));go_wp2;go_roundw
          case rel=>
           refine⟨k+1,X,Qf,λj hj=>?_,jR⟩;by_cases aT:j=k
           .subst aT;rw[Bc.o];exact HG.o
           .exact HP.o j X
          case measure=>exact Qw
      .have nT:=Zh (Pe.o (λj hj=>HP.o j X));obtain⟨g2,g3,g4,g5,g6⟩:=gM L f2 f3 f4 f5 f6;have W:=ah Le L;have g0:=cB L f0;go_wp2_with fail;refine(lQ t.ad t.cap t.xs Nq wr (az.below W)).mono ?_;rintro e wa ⟨rfl,rfl⟩;go_wp2_with fail;refine(lQ a.ad a.cap a.xs Nq wa (S.below W)).mono ?_;rintro e wb ⟨rfl,rfl⟩;go_wp2_with fail;refine(lQ d.ad d.cap d.xs Nq wb (EO.below W)).mono ?_;rintro e wc ⟨rfl,rfl⟩;go_wp2_with fail;refine Za ?_;refine XH rfl (λK z=>⟨.pointer (O (aD (M (H w)) 6)),λx hx=>?_,z _ ?_⟩)
       .clear z K;go_simp
       refine XH rfl (λK z=>⟨Z l.ad (N l.xs) l.cap,λx hx=>?_,z _ ?_⟩)
       .have e6:=cB hx g6;clear z K;go_simp
       refine XH rfl (λK z=>⟨.agg #[Z g.ad (N g.xs) g.cap,Z bF (N r) aG,Qo n,Z a.ad (N a.xs) a.cap,Z d.ad (N d.xs) d.cap,Z t.ad (N t.xs) t.cap,Z l.ad (N l.xs) l.cap],λx hx=>?_,z _ ?_⟩)
       .obtain⟨e0,e1,e2,e3,e4⟩:=gM hx g0 g1 g2 g3 g4;obtain⟨e5,e6⟩:=iA hx g5 g6;clear z K;go_simp
       refine XH rfl (λK z=>⟨I J (mf n a.xs d.xs t.xs),λx hx=>?_,z _ ?_⟩)
       .have u:=Zb hx (Mc ⟨g,bF,aG,r,n,a,d,t,l⟩ x (by simp only;omega) (by simp only;omega));unfold ae.cells ai.val at u;clear z K;go_simp
       refine XH rfl (λK z=>⟨Qo (aP l.xs (mf n a.xs d.xs t.xs)),λx hx=>?_,z _ ?_⟩)
       .have u:=Calls.sI hx (lQ l.ad l.cap l.xs (mf n a.xs d.xs t.xs) x ((jP.below W).below hx));clear z K;go_simp
       refine XH rfl (λK z=>⟨Qo (aP l.xs (mf n a.xs d.xs t.xs)),λx hx=>?_,z _ ?_⟩)
       .clear z K;go_simp
       refine Xo ?_;intro wd aB;have ag:=ah W aB;obtain⟨k2,k3,k4,k5,k6⟩:=gM aB g2 g3 g4 g5 g6;go_wp2_with fail;refine(Calls.drawn (rJ a.ad a.cap a.xs wd (S.below ag))).mono ?_;rintro e we ⟨rfl,aa⟩;have V5:=ah ag aa;obtain⟨g2,g3,g4,g5,g6⟩:=gM aa k2 k3 k4 k5 k6;go_wp2_with fail;refine(Calls.drawn (rJ l.ad l.cap l.xs we (jP.below V5))).mono ?_;rintro e wf ⟨rfl,aa⟩;have xD:=ah V5 aa;obtain⟨k2,k3,k4,k5⟩:=YL aa g2 g3 g4 g5;have v:Qk (dE Nq n a.xs d.xs t.xs l.xs=F->(3:Int)=R):=λhr=>Ta.o (λh=>by have:=h.2.2.2;rw[hr]at this;cases this);have PE:Qk (dE Nq n a.xs d.xs t.xs l.xs=T->(0:Int)=R):=λhr=>aM.o ⟨ha,X,nT.o,hr⟩;go_wp2
       all_goals
        go_ret
        first
        |exact⟨QW (v.o (Jb ‹_›)),xD⟩
        |exact⟨QW (v.o (E8 ‹_›)),xD⟩
        |exact⟨QW (v.o (E9 ‹_›)),xD⟩
        |exact⟨QW (v.o (Jc ‹_›)),xD⟩
        |exact⟨QW (v.o (LW ‹_›)),xD⟩
        |exact⟨QW (v.o (LX ‹_›)),xD⟩
        |exact⟨QW (v.o (Jd ‹_›)),xD⟩
        |exact⟨QW (v.o (LY ‹_› ‹_›)),xD⟩
        |exact⟨QW (PE.o (Je ‹_› ‹_› ‹_› ‹_› ‹_› ‹_› ‹_› ‹_›)),xD⟩
        |exact⟨QW (PE.o (Jf ‹_› ‹_› ‹_› ‹_› ‹_› ‹_› ‹_› ‹_›)),xD⟩
   .have aL:aP g.xs (N ts)=false:=by simpa using ha
    have HF:=Zh (Ta.o (λh=>ha h.1));go_wp2_with fail;have u:=lQ g.ad g.cap g.xs (N ts) w' (Q.below D);rw[aL]at u;refine u.mono ?_;rintro e w2 ⟨rfl,rfl⟩;go_wp2;go_ret;exact⟨QW HF.o,D⟩
def fF(ts:Qu af)(q:ae)(l:KJ):Nat:=(l.map λc=>(bS ts q.src.xs c).toNat).foldl max 0
def tH(ts:Qu af)(q:ae){k:Nat}(hk:k<N l):fF ts q (l.take (k+1))=max (fF ts q (l.take k)) (bS ts q.src.xs (E l k 0)).toNat:=by
 have e:E l k 0=l[k]:=by simp[List.getD,hk]
 unfold fF;rw[QZ hk,Q0,Xh,e];rfl
theorem CX(ts:Qu af)(q:ae){cs:Qu aF}(h1:¬1<N cs)(h0:0<N cs)(hn:(E cs 0 cz).not=F)(h2:(E cs 0 cz).op≠1)(h3:(E cs 0 cz).op≠2):bH ts q.src.xs cs=fF ts q (au (E cs 0 cz)):=by unfold bH fF au;grind
def GJ(ok:Ok ts q)(h:kS ts q l)(k:Nat):fF ts q (l.take k)<=1000000:=by
 induction k with
 |zero=>simp[fF]
 |succ k ih =>
  by_cases a:k<N l
  .rw[tH ts q a];obtain⟨b,e⟩:=h _ (dB a (d:=0));have:=(mW ok.cat ok.src b e).2;omega
  .rw[Xi X];rw[Xi X]at ih;exact ih
theorem CY(f:bq)(ts:Qu af)(q:ae)(ca:JW)(cc:Nat)(cs:Qu aF)(w:U)(ok:Ok ts q)(hf:dW w f.ca (dR ts q))(hx:bY w ca cs)(h0:0<N cs)(fe:kS ts q (av cs)) :
  Cb 46 #[.agg (f.cells ts q),.agg #[Z ca (N cs) cc]] w (I Qn ((bH ts q.src.xs cs:Nat):Int)):=by
 obtain⟨cb,co,rfl,c0,c1,c2,c3,c4⟩:=hx.2 0 h0;have aK:=hx.1;rw[Xr,Z4]at c0 c1 c2 c3 c4;have J5:kS ts q (au (E cs 0 cz)):=λc hc=>fe c (Zt.2 ⟨_,dB h0,hc⟩);have A:Qk _:=@CX ts q cs;have L:Qk (bH ts q.src.xs cs=if (N cs)≠1∨(E cs 0 cz).not=T then 2 else if (E cs 0 cz).op=1 then 3 else if (E cs 0 cz).op=2 then 10 else bH ts q.src.xs cs):=by
  show _=_;unfold bH
  repeat' split
  all_goals rfl
 generalize bH ts q.src.xs cs=R,E cs 0 cz=c at*;obtain⟨b,g,left,a,right⟩:=c;simp only at*;obtain⟨w1,aG,aa,ag⟩:=aY w ((f.cells ts q)) 60;obtain⟨y,aH,z,ai⟩:=aY w1 #[Z (O (aD cb co)) (N cs) cc] 80;obtain⟨G,aI,l,i⟩:=aY y #[Qo b,I J g,I J left,Qo a,I J right] 82;have t:=ah aa z;have u:=ah t l;have TU:=ah z l;obtain⟨d0,d1,d2,d3,d4⟩:=gM t c0 c1 c2 c3 c4;have m0:Qm y (aD (M (H w1)) 0)=O (Z (O (aD cb co)) (N cs) cc):=ai.cell 0;have ay:=cB l m0;have b0:Qm G (aD (M (H y)) 0)=O (Qo b):=i.cell 0;have b1:Qm G (aD (M (H y)) 1)=O (I J g):=i.cell 1;have b2:Qm G (aD (M (H y)) 2)=O (I J left):=i.cell 2;have b3:Qm G (aD (M (H y)) 3)=O (Qo a):=i.cell 3;have b4:Qm G (aD (M (H y)) 4)=O (I J right):=i.cell 4;have q7:Qm w1 (aD (M (H w)) 7)=O (Z f.ca (N (dR ts q)) f.cc):=ag.cell 7;have WH:=cB TU q7;have B:Qk _:=u;have C:Qk _:=hf.below u;have aL:=hf.1;have r:=ma ⟨b,g,left,a,right⟩ G;unfold aF.val at r;simp only at r;have P:Qk (∀k,k<N (au ⟨b,g,left,a,right⟩)->∃n kd:Nat,E (au ⟨b,g,left,a,right⟩) k 0=n/\n<N (dR ts q)/\(E (dR ts q) n (0,0)).2=(kd:Int)/\kd=(bS ts q.src.xs (E (au ⟨b,g,left,a,right⟩) k 0)).toNat/\kd<=1000000):=λk hk=>by obtain⟨h0,h1⟩:=J5 _ (dB hk (d:=0));have h2:=rO ok;have h3:=mW ok.cat ok.src h0 h1;refine⟨(E (au ⟨b,g,left,a,right⟩) k 0).toNat,(bS ts q.src.xs (E (au ⟨b,g,left,a,right⟩) k 0)).toNat,X,X,?_,rfl,X⟩;have e:(E (dR ts q) (E (au ⟨b,g,left,a,right⟩) k 0).toNat (0,0)).2=bS ts q.src.xs (E (au ⟨b,g,left,a,right⟩) k 0):=rfl;rw[e];omega
 have Q:Qk (∀k,k<N (au ⟨b,g,left,a,right⟩)->fF ts q ((au ⟨b,g,left,a,right⟩).take (k+1))=max (fF ts q ((au ⟨b,g,left,a,right⟩).take k)) (bS ts q.src.xs (E (au ⟨b,g,left,a,right⟩) k 0)).toNat):=λk hk=>tH ts q hk;have S:Qk (∀k,fF ts q ((au ⟨b,g,left,a,right⟩).take k)<=1000000):=λk=>GJ ok J5 k;have J6:Qk (fF ts q ((au ⟨b,g,left,a,right⟩).take (N (au ⟨b,g,left,a,right⟩)))=fF ts q (au ⟨b,g,left,a,right⟩)):=by show _=_;rw[ZV]
 have GK:Qk (fF ts q ((au ⟨b,g,left,a,right⟩).take 0)=0):=rfl;have az:Qk (N (au ⟨b,g,left,a,right⟩)<=2):=qF _;generalize au ⟨b,g,left,a,right⟩=CC,f.cells ts q=FC at*;obtain⟨K,TV⟩:=eY (λk=>fF ts q (CC.take k):Nat->Nat);have W:Qk (∀k,k<N CC->K (k+1)=max (K k) (bS ts q.src.xs (E CC k 0)).toNat):=by rw[TV];exact Q.o
 have J8:Qk (∀k,K k<=1000000):=by rw[TV];exact S.o
 have D:Qk (K (N CC)=fF ts q CC):=by rw[TV];exact J6.o
 have Ms:Qk (K 0=0):=by rw[TV];exact GK.o
 clear TV Q S J6 GK c0 c1 c2 c3 c4 aa z l t u TU ag ai i hf hx fe J5 ok;by_cases h1:1<N cs
 .have j:Qk (R=2):=Qc
  clear L A P W J8 D Ms C r;go_enter func46,ntmps46;go_wp2;go_ret;exact⟨QW (by rw[j.o];rfl),B.o⟩
 cases b with
 |true =>
  have j:Qk (R=2):=Qc;clear L A P W J8 D Ms C r;go_enter func46,ntmps46;go_wp2;go_ret;exact⟨QW (by rw[j.o];rfl),B.o⟩
 |false =>
  have v:¬(N cs≠1∨F=T):=Qc;by_cases o1:g=1
  .have j:Qk (R=3):=Qc
   subst o1;clear L A P W J8 D Ms C r v;go_enter func46,ntmps46;go_wp2;go_ret;exact⟨QW (by rw[j.o];rfl),B.o⟩
  by_cases o2:g=2
  .have j:Qk (R=10):=Qc
   subst o2;clear L A P W J8 D Ms C r v;go_enter func46,ntmps46;go_wp2;go_ret;exact⟨QW (by rw[j.o];rfl),B.o⟩
  have j:Qk (R=fF ts q CC):=A.o h1 h0 rfl o1 o2;have IQ:(g==1)=false:=by simp[o1]
  have aM:(g==2)=false:=by simp[o2]
  rw[<-D.o]at j;clear L A v o1 o2 D;generalize bS ts q.src.xs=KN,dR ts q=CS at*;go_enter func46,ntmps46;go_wp2_with fail;refine r.mono ?_;clear r aG aH aI;rintro e w4 ⟨xb,rfl,aj,m⟩;have aA:=cB m WH;have TW:Qk _:=ah B.o m;have aB:Qk (dW w4 f.ca CS):=dW.below m C.o;have Y6:Qk _:=aj;have aN:=az.o;clear m aj C B m0 ay b0 b1 b2 b3 b4 q7 WH d0 d1 d2 d3 d4;go_wp2;go_loop [6,30] (λsv iv=>∃k:Nat,k<=N CC/\iv=I J k/\(∃s:Nat,sv=I Qn (s:Int)/\Qk (s=K k))) (λ_ iv=>N CC-(intOf iv).toNat)
  case atStart=>grind
  case round=>
   obtain⟨k,hk,rfl,⟨s,rfl,hs⟩⟩:=hrel;by_cases p:k<N CC
   .obtain⟨aS,xo,e,Pm⟩:=QY Y6.o p
    cases e;have aC:=Pm k p;obtain⟨n,kd,hn,aJ,ak,ax,aT⟩:=P.o k p;have HT:Qk _:=W.o k p;have aO:s<=1000000:=by rw[hs.o];exact J8.o k
    obtain⟨yb,yo,TQ,_,y1⟩:=(show dW w4 f.ca CS from aB.o).2 n aJ;rw[TQ]at aA;rw[hn,ZQ]at aC;rw[ak]at y1;rw[<-hs.o,<-ax]at HT;clear Pm TQ ak hs ax hn;generalize KN (E CC k 0)=kk at*;have aP:max (s:Int) (kd:Int)=((max s kd:Nat):Int):=X;have aQ:(if (s:Int)<(kd:Int) then (kd:Int) else (s:Int))=((max s kd:Nat):Int):=by split <;> omega
    have aR:(if (kd:Int)<(s:Int) then (s:Int) else (kd:Int))=((max s kd:Nat):Int):=by split <;> omega
    go_wp2;go_round
    case rel=>grind
    case measure=>exact Qw
   .obtain rfl:k=N CC:=X
    have ui:=Zh (by  rw[hs.o,j.o]:s=R)
    clear hs j;go_wp2;go_ret;exact⟨QW (by rw[ui.o]),TW.o⟩
def pF(h:W.ownsRow base e sz v n xs)(hb:v.ownBlock=O b):∃a,W.heap[b]? = O (.cells a e (0,0)):=by
 rcases h.2 with⟨rfl,_⟩|⟨g,cap,a,rfl,_,h3,_⟩
 .cases hb
 .cases hb
  simp_all
def jy(ht:e≠t)(h:W.ownsRow base e sz v n xs){c:Array Value}(hg:GB W b t c):v.ownBlock≠O b:=λd=>by obtain⟨a,f⟩:=pF h d;unfold GB at hg;simp_all
def qI(ht:e≠t){base' sz':Nat}(h:W.ownsRow base e sz v n xs)(h':W.ownsRow base' t sz' v' n' xs')(hb:v.ownBlock=O b):v'.ownBlock≠O b:=λa=>by obtain⟨f,i⟩:=pF h hb;obtain⟨d,g⟩:=pF h' a;simp_all
theorem qJ{w5:U}{bf:Nat}{tF:TypeId}(ht:e≠tF){cells:Array Value}(hg:GB W bf tF cells)(ho:W.ownsRow base e sz v n xs)(l9:w5.ownsRow base e sz v' n' xs')(hk:Kept (λb=>v.ownBlock≠O b) W w5)
  (hat:v'.ownBlock=v.ownBlock∨v'.ownBlock=O (M (H W)+1)) (i:Nat) :
  GB w5 bf tF cells/\GB (w5.setCell (aD bf i) v') bf tF (cells.setIfInBounds i v')/\(w5.setCell (aD bf i) v').ownsRow base e sz v' n' xs'/\Kept (λb=>b≠bf/\v.ownBlock≠O b) W (w5.setCell (aD bf i) v'):=by
 have f:=jy ht ho hg;have a:=hg.keep hk f;have k:=hg.lt;have d:v'.ownBlock≠O bf:=λe=>by grind
 refine⟨a,a.set i v',?_,(hk.mono λ_ _ h=>h.2).trans (ZG _ _ _ (λh=>h.1 rfl))⟩;exact ZH l9 (s:=λb=>b≠bf) (ZG _ _ _ (λh=>h rfl)) (λg j e=>d (by rw[j,e]))
def GM(ts:Qu af)(src:KJ)(k m:Nat):(aV ts src k++((List.range (m+1)).map λm=>(k,(E ts (E src k 0).toNat tz).kd m))).flatMap eD=(aV ts src k++((List.range m).map λm=>(k,(E ts (E src k 0).toNat tz).kd m))).flatMap eD++eD (k,(E ts (E src k 0).toNat tz).kd m):=by rw[Zx,Q0,<-List.append_assoc,List.flatMap_append];simp
def jl(ts:Qu af)(src:KJ)(k:Nat):Qu Nat:=(List.range k).map λ(k:Nat)=>dF ts src (k:Int)
theorem AA(ts:Qu af)(src:KJ)(k:Nat):jl ts src (k+1)=jl ts src k++[dF ts src (k:Int)]:=by grind [jl,List.range_succ]
theorem jG(ts:Qu af)(src:KJ)(k:Nat):N (jl ts src k)=k:=by grind [jl]
theorem rQ{ts:Qu af}{src:KJ}(hc:bQ ts=T)(ha:aP src (N ts)=T)(h:N src<=64):∀k,k<=N src->N (aV ts src k)<=4*k
 |0,_=>by simp[aV]
 |k+1,hk=>by have ih:=rQ hc ha h k X;rw[gH,Zm,ZR,ZT];obtain⟨h0,h1⟩:=mX ha (k:=k) X;have ht:=mV hc (i:=(E src k 0).toNat) X;unfold bK at ht;grind
def Hr(p:aC):p.cells=#[I J p.kind,I Qn (p.sources:Int),I Qn (p.clauses:Int),p.order.val,I Qn (p.size:Int),I Qn (p.cost:Int)]:=rfl
def Ku(k:Int)(l r s:Nat):mJ k l r s<=aH:=by
 unfold mJ
 repeat' split
 .exact qB _
 .exact qB _
 .exact eU _ _
def De(p:aC)(ao:JW)(cap:Nat)(ps:Qu aC)(w:U)(hp:PartsAt w ao ps)(hz:p.size<=aH)(h1:p.kind≠1->0<N ps)(h2:3<=p.kind->p.kind<=5->1<N ps) :
  Cb 88 #[.agg p.cells,Z ao (N ps) cap] w (I Qn (iE p.kind p.size (E ps 0 aR).cost (E ps 0 aR).size (E ps 1 aR).cost (E ps 1 aR).size:Nat)):=by
 obtain⟨w1,aL,av,S⟩:=aY w p.cells 65;have D:=av;have iU:=S;have dZ:=iU.at 0;have fE:=iU.at 4;have HC:=Zh D;generalize aO:p.cells=PC at*;by_cases k1:p.kind=1
 .have g:=Zh (by  unfold iE;rw[Q8 k1]:iE p.kind p.size (E ps 0 aR).cost (E ps 0 aR).size (E ps 1 aR).cost (E ps 1 aR).size=eF [p.size,1])
  generalize iE p.kind p.size (E ps 0 aR).cost (E ps 0 aR).size (E ps 1 aR).cost (E ps 1 aR).size=R at*;have a:=OZ w1 p.size 1 hz (by unfold aH;omega);rw[<-g.o]at a;have kb:(p.kind==1)=true:=by simp[k1]
  generalize p.kind=k,p.size=s at*;go_enter func88,ntmps88;go_wp2_with fail;refine a.mono ?_;rintro e w2 ⟨rfl,W⟩;have i:=Zh (ah HC.o W);clear W;go_wp2;go_ret;exact⟨rfl,i.o⟩
 have ak:=h1 k1;have aI:=hp.1;obtain⟨⟨B,C,rfl,c0,c1,c2,c3,c4,c5⟩,hl⟩:=hp.2 0 ak;rw[Xr,Z4]at c0 c1 c2 c3 c4 c5;have N7:Qk (1<N ps->Qm w (aD B (C+6))=O (I J (E ps 1 aR).kind)/\Qm w (aD B (C+6+1))=O (I Qn ((E ps 1 aR).sources:Int))/\
  Qm w (aD B (C+6+2))=O (I Qn ((E ps 1 aR).clauses:Int))/\Qm w (aD B (C+6+3))=O (E ps 1 aR).order.val/\
  Qm w (aD B (C+6+4))=O (I Qn ((E ps 1 aR).size:Int))/\Qm w (aD B (C+6+5))=O (I Qn ((E ps 1 aR).cost:Int))/\(E ps 1 aR).size<=aH/\(E ps 1 aR).cost<=aH):=λh=>by obtain⟨⟨b',o',e,d0,d1,d2,d3,d4,d5⟩,hr⟩:=hp.2 1 h;cases e;rw[Nat.one_mul]at d0 d1 d2 d3 d4 d5;exact⟨d0,d1,d2,d3,d4,d5,hr.size,hr.cost⟩
 have j:=hl.size;have n:=hl.cost;obtain⟨R,hR⟩:=eY (iE p.kind p.size (E ps 0 aR).cost (E ps 0 aR).size (E ps 1 aR).cost (E ps 1 aR).size);rw[<-hR];unfold iE at hR;rw[Zf k1]at hR;have g:=Zh hR;clear hR;have G:=h2;clear hp hl h1 h2 S iU;generalize p.kind=k,p.size=s,E ps 0 aR=l,E ps 1 aR=r at*;obtain⟨lk,ls,ax,⟨la,ay,lx⟩,lz,lc⟩:=l;obtain⟨rk,rs,aA,⟨ra,aB,rx⟩,rz,rc⟩:=r;unfold ai.val at*;simp only at*;obtain⟨w2,aM,aa,ae⟩:=aY w1 #[I J lk,I Qn (ls:Int),I Qn (ax:Int),Z la (N lx) ay,I Qn (lz:Int),I Qn (lc:Int)] 65;obtain⟨d0,d1,d2,d3,d4,d5⟩:=I7 D c0 c1 c2 c3 c4 c5;obtain⟨m0,m4⟩:=iA aa dZ fE;have l4:=ae.at 4;have l5:=ae.at 5;have IP:=Zh (ah HC.o aa);have IQ:(k==1)=false:=by simp[k1]
 go_enter func88,ntmps88;go_wp2;refine Za ?_;refine Lp ?_;refine Xo ?_;intro y aj;obtain⟨n0,n5⟩:=iA aj m0 l5;have z:=Zh (ah IP.o aj);have au:Qk (1<N ps->_):=λh=>N7.o h;by_cases Rc:k=3∨k=4∨k=5
 .rw[Q8 Rc]at g;obtain⟨q0,q1,q2,q3,q4,q5,aF,aG⟩:=au.o (G X X);obtain⟨e0,e1,e2,e3,e4,e5⟩:=I7 z.o q0 q1 q2 q3 q4 q5;have aJ:=G X X;obtain⟨w4,aN,af,ag⟩:=aY y #[I J rk,I Qn (rs:Int),I Qn (aA:Int),Z ra (N rx) aB,I Qn (rz:Int),I Qn (rc:Int)] 65;have r4:=ag.at 4;have r5:=ag.at 5;obtain⟨t0,t5⟩:=iA af n0 n5;have TW:=Zh (ah z.o af);have q:Qk (∀x,_):=λx=>ze k lz rz s x j aF hz
  have A:Qk (mJ k lz rz s<=aH):=Ku _ _ _ _;have t:Qk (∀(x:U) (m:Nat),m<=aH->_):=λx m hm=>O0 x lc rc m n aG hm;generalize mJ k lz rz s=wk at*;have HK:=Zh Rc;rcases HK.o with h|h|h
  .subst h;go_wp2;refine wH w4 λa=>?_
   refine FW 0 a ?_;refine wR 10 λK b=>?_;go_simp;refine Xx (q.o _) ?_;rintro e u ⟨rfl,d⟩;refine oT b a d λa=>?_;refine wR 11 λK b=>?_;go_simp;refine oA b a λa=>?_;refine wR 12 λK b=>?_;go_simp;refine Xx (t.o u wk A.o) ?_;rintro e w6 ⟨rfl,f⟩;refine b.o _ _ ((Below.trans (((Q5 _ _).drew).trans (d.mono Qb)) (f.mono (by have:=d.size;simp at this;omega)))) (λa=>?_);refine wR 13 λK b=>?_;go_simp;refine b.o _ _ a λa=>?_;refine wD ?_;try simp only[pU]
   have i:=Zh (ah TW.o a);rw[<-g.o];go_wp2;go_ret;exact⟨rfl,i.o⟩
  .subst h;go_wp2;refine wH w4 λa=>?_
   refine FW 0 a ?_;refine wR 10 λK b=>?_;go_simp;refine Xx (q.o _) ?_;rintro e u ⟨rfl,d⟩;refine oT b a d λa=>?_;refine wR 11 λK b=>?_;go_simp;refine oA b a λa=>?_;refine wR 12 λK b=>?_;go_simp;refine Xx (t.o u wk A.o) ?_;rintro e w6 ⟨rfl,f⟩;refine b.o _ _ ((Below.trans (((Q5 _ _).drew).trans (d.mono Qb)) (f.mono (by have:=d.size;simp at this;omega)))) (λa=>?_);refine wR 13 λK b=>?_;go_simp;refine b.o _ _ a λa=>?_;refine wD ?_;try simp only[pU]
   have i:=Zh (ah TW.o a);rw[<-g.o];go_wp2;go_ret;exact⟨rfl,i.o⟩
  .subst h;go_wp2;refine wH w4 λa=>?_
   refine FW 0 a ?_;refine wR 10 λK b=>?_;go_simp;refine Xx (q.o _) ?_;rintro e u ⟨rfl,d⟩;refine oT b a d λa=>?_;refine wR 11 λK b=>?_;go_simp;refine oA b a λa=>?_;refine wR 12 λK b=>?_;go_simp;refine Xx (t.o u wk A.o) ?_;rintro e w6 ⟨rfl,f⟩;refine b.o _ _ ((Below.trans (((Q5 _ _).drew).trans (d.mono Qb)) (f.mono (by have:=d.size;simp at this;omega)))) (λa=>?_);refine wR 13 λK b=>?_;go_simp;refine b.o _ _ a λa=>?_;refine wD ?_;try simp only[pU]
   have i:=Zh (ah TW.o a);rw[<-g.o];go_wp2;go_ret;exact⟨rfl,i.o⟩
 rw[Zf Rc]at g;have BQ:(k==3)=false:=Qi;have Oh:(k==4)=false:=Qi;have UA:(k==5)=false:=Qi;by_cases k6:k=6∨k=10
 .rw[Q8 k6]at g;have UB:Qk (∀x,_):=λx=>zf lz x j
  have A:Qk (az lz (dm lz+1)<=aH):=eU _ _;have L:Qk (∀(x:U) (m:Nat),m<=aH->_):=λx m hm=>OZ x lc m n hm;generalize az lz (dm lz+1)=wk at*;have HK:=Zh k6;rcases HK.o with h|h
  .subst h;go_wp2;refine wH y λa=>?_
   refine Ww 0 a ?_;refine wR 3 λK b=>?_;go_simp;refine Xx (UB.o _) ?_;rintro e u ⟨rfl,rfl⟩;refine b.o _ _ a λa=>?_;refine wR 4 λK b=>?_;go_simp;refine oA b a λa=>?_;refine wR 5 λK b=>?_;go_simp;refine Xx (L.o y.drew wk A.o) ?_;rintro e w6 ⟨rfl,f⟩;refine b.o _ _ ((((Q5 _ _).drew).trans (f.mono Qb))) (λa=>?_);refine wR 6 λK b=>?_;go_simp;refine b.o _ _ a λa=>?_;refine wD ?_;try simp only[pU]
   have i:=Zh (ah z.o a);rw[<-g.o];go_wp2;go_ret;exact⟨rfl,i.o⟩
  .subst h;go_wp2;refine wH y λa=>?_
   refine Ww 0 a ?_;refine wR 3 λK b=>?_;go_simp;refine Xx (UB.o _) ?_;rintro e u ⟨rfl,rfl⟩;refine b.o _ _ a λa=>?_;refine wR 4 λK b=>?_;go_simp;refine oA b a λa=>?_;refine wR 5 λK b=>?_;go_simp;refine Xx (L.o y.drew wk A.o) ?_;rintro e w6 ⟨rfl,f⟩;refine b.o _ _ ((((Q5 _ _).drew).trans (f.mono Qb))) (λa=>?_);refine wR 6 λK b=>?_;go_simp;refine b.o _ _ a λa=>?_;refine wD ?_;try simp only[pU]
   have i:=Zh (ah z.o a);rw[<-g.o];go_wp2;go_ret;exact⟨rfl,i.o⟩
 rw[Zf k6]at g;have Re:(k==6)=false:=Qi;have MQ:(k==10)=false:=Qi;by_cases k7:k=7
 .rw[Q8 k7]at g;subst k7;have P:=O0 y lc lz lz n j j;rw[<-g.o]at P;go_wp2_with fail;refine P.mono ?_;rintro e w4 ⟨rfl,v⟩;have i:=Zh (ah z.o v);go_wp2;go_ret;exact⟨rfl,i.o⟩
 rw[Zf k7]at g;have aK:(k==7)=false:=Qi;have Q:=OZ y lc lz n j;rw[<-g.o]at Q;go_wp2_with fail;refine Q.mono ?_;rintro e w4 ⟨rfl,v⟩;have i:=Zh (ah z.o v);go_wp2;go_ret;exact⟨rfl,i.o⟩
theorem yD(h:s<2 ^ n)(hi:i∈aW s):i<n:=by unfold aW at hi;grind [Nat.testBit_lt_two_pow,Nat.lt_of_lt_of_le,Nat.pow_le_pow_right]
theorem tK(h:dU ts q l s=T):aQ (N q.wh) l:=λx b=>by
 unfold dU at h;rw[Q4]at h;have d:∀i,i<N l->(if i=0 then -1 else E l (i-1) 0)<E l i 0/\E l i 0<N q.wh:=λi a=>by simp_all
 have f:∀i,i<N l->0<=E l i 0:=by
  intro i
  induction i with
  |zero=>grind
  |succ i ih =>
   grind
 obtain⟨i,a,e⟩:=Q9 b;grind
def ni(g:Nat->Nat):∀(l:Qu Nat) (m:Nat),l.foldl (λx c=>x / g c) m<=m
 |[],m=>Q6 _
 |a::l,m=>by rw[ZM];exact ZB (ni g l _) (Nat.div_le_self _ _)
theorem Kv(ts:Qu af)(q:ae)(s c:Nat):fK ts q s c<=aH:=by
 unfold fK;have a:=eH ((aW s).map λ(k:Nat)=>dF ts q.src.xs (k:Int)) 1 (by grind [aH]);split
 .omega
 .have:=ni (λc=>bH ts q.src.xs (E q.wh c lz).cs) (aW c) (((aW s).map λ(k:Nat)=>dF ts q.src.xs (k:Int)).foldl az 1);omega
theorem Kw(k:Int)(s lc ls rc rs:Nat):iE k s lc ls rc rs<=aH:=by grind [iE,qB]
theorem Df{n:ag}{l r:bZ}(hs:bR n i=T)(hf:eB ts q n l r=T):aQ (N q.wh) n.cl.xs/\(n.kind=1->0<=n.source/\n.source<N q.src.xs):=by
 have b:l8 n=true:=by unfold bR at hs;simp_all
 have d:(n.kind=2∨3<=n.kind/\n.kind<=5)∨n.cl.xs=[]:=by unfold l8 at b;grind
 unfold eB at hf;constructor
 .rcases d with h|h
  .rw[Zf X]at hf;by_cases k2:n.kind=2
   .rw[Q8 k2,Q3]at hf;exact tK hf.2
   rw[Zf k2]at hf;have a:fM ts q n l.sources r.sources=true:=by grind
   unfold fM at a;rw[Q3]at a;exact tK a.2
  .rw[h];exact λx e=>by cases e
 grind
