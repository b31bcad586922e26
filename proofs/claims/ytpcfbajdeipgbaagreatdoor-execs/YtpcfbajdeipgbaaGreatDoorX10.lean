import Derived.Test.YtpcfbajdeipgbaaGreatDoorX03
import Derived.Test.YtpcfbajdeipgbaaGreatDoorX05
import Derived.Test.YtpcfbajdeipgbaaGreatDoorX06
set_option linter.all false
set_option maxRecDepth 100000
set_option maxHeartbeats 0
namespace Go.Proofs.Zz
open Go.RowKit Go.Shelf
open List renaming length->N,getD->E
open Go.Value renaming slice->Z,int->I,pointer->Y,bool->EP,agg->FN
open Go.Proofs.Tryz renaming prog->V
open Option renaming some->O
open Go.IntKind renaming i64->J,u64->Dc
open Bool renaming false->F,true->T
open Go renaming World->U
open Go.World renaming heap->H,cell?->Am
open _root_.Array renaming size->M
open Go.RowKit renaming Hid->Wl
open Go.Obj renaming cells->FL
open Go.Ending renaming returned->FR
variable {i j s:Nat} {ts:List ag} {q:af} {α:Type}
def Tryz.TA:(V.info? 120).map (λi=>(i.zero,i.size,i.bytes))=O (O (FN #[I J 0,I Dc 0,I Dc 0,Z none 0 0,I Dc 0,I Dc 0]),6,64):=by kernel_rfl
theorem MJ(W:U)(base:Nat)(v:Value)(ps:List aK)(hown:W.ownsRow base 120 6 v (N ps) (ps.flatMap aK.list))(hl:N ps<=1000)(hb:base<=M (H W))(p:aK)(ty:TypeId) :
  ∃d e,(Builtin.append_ #[64,64] ty #[v,Z (O (aD (M (H W)) 0)) 1 1]).run V (W.alloc (FL p.cells 120))=.ok d e/\
   e.ownsRow base 120 6 d (N (ps++[p])) ((ps++[p]).flatMap aK.list)/\Kept (λb=>v.ownBlock≠O b) W e/\(∃a m c,d = Z a m c)/\(d.ownBlock=v.ownBlock∨d.ownBlock=O (M (H W)+1)):=by
 obtain⟨l,n,f,g,i⟩:=Xk Tryz.TA;obtain⟨d,e,q,y,r,t,j⟩:=yf (P:=V) W base 64 ty 120 l _ 6 64 Tryz.underlying64 n f g i rfl (by decide) v (N ps) _ hown hb p.list rfl (λu k=>by
  unfold aK.list ae.val at k;simp at k;rcases k with rfl|rfl|rfl|rfl|rfl|rfl <;> rfl) hl (by decide)
 exact⟨d,e,q,by grind,r,t,j⟩
def adA(ao:Option Addr)(cap:Nat)(ts:List ag)(q:af)(w:U)(hx:aN w ao ts)(hq:q.At w)(hc:dL ts=T)
  (hf:¬(5<N q.src.xs∨8<N q.wh∨8<N q.aH.xs∨4<N q.keys.xs∨4<N q.sums.xs∨4<N q.ord.xs)) (hw:mM q.wh (N q.wh)=T) :
  Cb 35 #[Z ao (N ts) cap,FN q.cells] w (I J (q.check ts)):=by
 have B:=Zh (af.Aw hc (aaz (by rw[Di];exact hw)));have t:=λo=>hx.below (bJ w o);have d:=hq.wh;generalize q.check ts=R at*;clear hq;obtain⟨src,X,aP,a,y,m,n,D,z⟩:=q;simp only at hf d hw;unfold af.cells ae.val;simp only;have K:¬5<N src.xs:=by omega
 have L:¬8<N a:=by omega
 have P:¬8<N D.xs:=by omega
 have Q:¬4<N m.xs:=by omega
 have S:¬4<N n.xs:=by omega
 have W:¬4<N z.xs:=by omega
 have C:=Zh hw;clear hf hw;go_enter Tryz.func35,Tryz.ntmps35;go_wp2_with (go_at_call 65;refine(pW _ _ _ _ (t _)).mono ?_;rw[hc];rintro e w' ⟨rfl,A⟩;have g:=wZ A;simp at g);go_loop [6,7] (λf i=>∃k:Nat,k<=N a/\i=I J k/\f=EP (mM a k)) (λ_ i=>N a-(intOf i).toNat)
 case atStart=>exact⟨0,Q4 _,rfl,by simp[mM];omega⟩
 case round=>
  obtain⟨k,hk,rfl,rfl⟩:=hrel;by_cases l:k<N a
  .have p:=UJ l;obtain⟨b,off,rfl,j⟩:=d.2.1.get l;have u:=cB (aj (bJ _ _) A) (j k l);unfold az.val at u;generalize (E a k lz).ad=ad at*;generalize (E a k lz).cap=cp at*;generalize (E a k lz).cs.length=cl at*
   cases hb0:mM a k
   .have r:=Zh (show mM a (k+1)=decide (3<cl) by rw[p,hb0,Bool.false_or]);clear p hb0 j d;by_cases G:3<cl
    .go_wp2;go_round
     case rel=>exact⟨k+1,by omega,by go_num,uG (by rw[r.o];simp;omega)⟩
     case measure=>simp[intOf];omega
    .go_wp2;go_round
     case rel=>exact⟨k+1,by omega,by go_num,uG (by rw[r.o];simp;omega)⟩
     case measure=>simp[intOf];omega
   .have r:=Zh (show mM a (k+1)=T by rw[p,hb0,Bool.true_or]);clear p hb0 j d;go_wp2;go_round
    case rel=>exact⟨k+1,by omega,by go_num,by rw[r.o]⟩
    case measure=>simp[intOf];omega
  .have v:k=N a:=by omega
   subst v;rw[C.o];go_wp2;go_ret;exact⟨Qe B.o,aj (bJ _ _) A⟩
def ahC(ao:Option Addr)(cap:Nat)(ts:List ag)(q:af)(w:U)(hx:aN w ao ts)(hq:q.At w)(hc:dL ts=T)
  (hf:¬(5<N q.src.xs∨8<N q.wh∨8<N q.aH.xs∨4<N q.keys.xs∨4<N q.sums.xs∨4<N q.ord.xs)) (hw:mM q.wh (N q.wh)=F) :
  Cb 35 #[Z ao (N ts) cap,FN q.cells] w (I J (q.check ts)):=by
 have A:jB q.src.xs q.qX q.keys.xs q.sums.xs q.aH.xs q.ord.xs=false:=ael (by simpa [af.qX] using hf) (by rw[Di];exact hw);have L:=@af.aaA q ts hc A;have zK:=@af.aem q ts hc A;have Ij:=@Bv q (ak ts q.src.xs);have ah:=@zQ q (ak ts q.src.xs);have aK:=λo=>hx.below (bJ w o);have ai:=@UK q.wh;generalize hR:q.check ts=R at*;generalize bn:q.cells=C at*;have au:=bn.symm;obtain⟨src,dx,aP,p,l,a,d,r,g⟩:=q;have aB:=au;unfold af.cells ae.val at aB;subst aB;simp only at hf hw L zK Ij ah ai;have P:aA w src.ad src.xs:=hq.src;have Q:aA w a.ad a.xs:=hq.keys;have aL:aA w d.ad d.xs:=hq.sums;have aC:aA w r.ad r.xs:=hq.aH;have qL:aA w g.ad g.xs:=hq.ord;have Ml:bR w dx p:=hq.wh;clear hq;have h1:¬5<N src.xs:=by omega
 have h2:¬8<N p:=by omega
 have h3:¬8<N r.xs:=by omega
 have h4:¬4<N a.xs:=by omega
 have h5:¬4<N d.xs:=by omega
 have h6:¬4<N g.xs:=by omega
 have HW:Wl (∀k,k<N p->(E p k lz).cs.length<=3):=λk hk=>ai hk hw;obtain⟨Ic,aU⟩:=aV L zK;have aO:Wl (∀{k:Nat},k<N p->iH (E p k lz).cs (ak ts src.xs)=F->_):=Ij;obtain⟨aW,bD⟩:=aV ah au;clear hf hw ai L zK Ij ah au A hR;go_enter Tryz.func35,Tryz.ntmps35;go_wp2_with (go_at_call 65;refine(pW _ _ _ _ (aK _)).mono ?_;rw[hc];rintro e w' ⟨rfl,hb⟩;have n:=wZ hb;simp at n);go_loop [6,7] (λf i=>∃k:Nat,k<=N p/\i=I J k/\f=EP F) (λ_ i=>N p-(intOf i).toNat)
 case atStart=>exact⟨0,Q4 _,rfl,uG (by simp;omega)⟩
 case round=>
  obtain⟨k,hk,rfl,rfl⟩:=hrel;by_cases z:k<N p
  .have bA:=HW.o k z;obtain⟨b,off,rfl,ax⟩:=Ml.2.1.get z;have D:=cB (aj (bJ _ _) hb) (ax k z);unfold az.val at D;generalize (E p k lz).ad=ad at*;generalize (E p k lz).cap=cp at*;generalize (E p k lz).cs.length=cl at*;have bB:¬3<cl:=by omega
   go_wp2;go_round
   case rel=>exact⟨k+1,by omega,by go_num,uG (by simp;omega)⟩
   case measure=>simp[intOf];omega
  .have hz:M (H w)<M (H w'):=by have:=hb.size;simp at this;omega
   have B:=aj (bJ _ _) hb;by_cases ha:aM src.xs (N ts)=T
   .go_wp2_with fail;have t:=vW src.ad src.cap src.xs (N ts) w' (P.below B);rw[ha]at t;refine t.mono ?_;rintro e w2 ⟨rfl,rfl⟩;by_cases h0:N src.xs=0
    .have HF:=Zh (Ic.o (λh=>by have:=h.2.1;omega));go_wp2;go_ret;exact⟨Qe HF.o,B⟩
    .have bC:((N src.xs:Int)==0)=false:=by simpa using h0
     have hn:=Qp hc ha _ (Qs (N src.xs));rw[Zb]at hn;have aQ:=hn.1;have aR:ak ts src.xs<=1000:=by omega
     have t:=DN ao cap ts ⟨src,dx,aP,p,l,a,d,r,g⟩ w2 (hx.below B) hc (P.below B) (by simp only;omega) ha;unfold af.cells ae.val at t;simp only at t;generalize hN:ak ts src.xs=Nq at*;go_wp2_with fail;refine t.mono ?_;rintro e w3 ⟨rfl,v⟩;have xZ:=aj B v;have f0:Am w3 (aD (M (H w)) 0)=O (Z src.ad (N src.xs) src.cap):=cB v (by rw[n _ _ (by omega)];simp);have f1:Am w3 (aD (M (H w)) 1)=O (Z dx (N p) aP):=cB v (by rw[n _ _ (by omega)];simp);have f2:Am w3 (aD (M (H w)) 2)=O (EP l):=cB v (by rw[n _ _ (by omega)];simp);have f3:Am w3 (aD (M (H w)) 3)=O (Z a.ad (N a.xs) a.cap):=cB v (by rw[n _ _ (by omega)];simp);have f4:Am w3 (aD (M (H w)) 4)=O (Z d.ad (N d.xs) d.cap):=cB v (by rw[n _ _ (by omega)];simp);have f5:Am w3 (aD (M (H w)) 5)=O (Z r.ad (N r.xs) r.cap):=cB v (by rw[n _ _ (by omega)];simp);have f6:Am w3 (aD (M (H w)) 6)=O (Z g.ad (N g.xs) g.cap):=cB v (by rw[n _ _ (by omega)];simp);go_wp2_with fail;go_loopw [10] (λi wr=>∃k:Nat,k<=N p/\i=I J k/\Wl (∀j,j<k->iH (E p j lz).cs Nq=T)/\Bw w3 wr) (λi _=>N p-(intOf i).toNat)
     case atStart=>exact⟨0,Q4 _,rfl,λj hj=>absurd hj (by omega),Qr _ _⟩
     case round=>
      obtain⟨k,hk,rfl,HP,G⟩:=hrel;have g1:=cB G f1;by_cases z:k<N p
      .obtain⟨b,off,rfl,ax⟩:=Ml.2.1.get z;have D:=cB xZ (ax k z);have av:=(Ml.2.2 k z).below xZ;have aG:Wl (iH (E p k lz).cs Nq=F->(3:Int)=R):=λaX=>Ic.o (λh=>by have:=h.2.2.1;rw[aO.o z aX]at this;cases this)
       generalize bq:E p k lz=cl at*;have xC:=Zh bq;obtain⟨ad,cp,cs⟩:=cl;unfold az.val at D;simp only at D av;have DD:=av.1;have gk:=cB G D;go_wp2;go_loopw [11] (λi aY=>∃m:Nat,m<=N cs/\i=I J m/\Wl (∀j,j<m->dC (E cs j cz) Nq=T)/\Bw w3 aY) (λi _=>N cs-(intOf i).toNat)
       case atStart=>exact⟨0,Q4 _,rfl,λj hj=>absurd hj (by omega),G⟩
       case round=>
        obtain⟨m,hm,rfl,HM,mJ⟩:=hrel;obtain⟨g1,gk⟩:=gy mJ f1 D;by_cases uK:m<N cs
        .obtain⟨b2,bE,rfl,c0,c1,c2,c3,c4⟩:=av.2 m uK;obtain⟨d0,d1,d2,d3,d4⟩:=ji mJ c0 c1 c2 c3 c4;have t:=Va (E cs m cz) Nq wr aQ aR;unfold aF.val at t;generalize bu:E cs m cz=cc at*;have aI:=Zh bu
         cases hcb:dC cc Nq
         .rw[hcb]at t;have HF:=Zh (aG.o (Ex uK (by rw[aI.o];exact hcb)));go_wp2_with fail;refine t.mono ?_;rintro e w4 ⟨rfl,ay⟩;go_wp2;go_ret;exact⟨Qe HF.o,aj xZ (aj mJ ay)⟩
         .rw[hcb]at t;have aS:=Zh hcb;go_wp2_with fail;refine t.mono ?_;rintro e w4 ⟨rfl,ay⟩;go_wp2;go_roundw
          case rel=>
           refine⟨m+1,by omega,by go_num,λj hj=>?_,aj mJ ay⟩;by_cases aZ:j=m
           .subst aZ;rw[aI.o];exact aS.o
           .exact HM.o j (by omega)
          case measure=>simp[intOf];omega
        .by_cases bf:N cs=0
         .have HF:=Zh (aG.o (Bz (by omega)));go_wp2;go_ret;exact⟨Qe HF.o,aj xZ mJ⟩
         .have bz:((N cs:Int)==0)=false:=by simpa using bf
          have HG:=Zh (BA (by omega) (λj hj=>HM.o j (by omega)));go_wp2;go_roundw
          case rel=>
           refine⟨k+1,by omega,by go_num,λj hj=>?_,mJ⟩;by_cases bg:j=k
           .subst bg;rw[xC.o];exact HG.o
           .exact HP.o j (by omega)
          case measure=>simp[intOf];omega
      .have sO:=Zh (aW.o (λj hj=>HP.o j (by omega)));obtain⟨g2,g3,g4,g5,g6⟩:=ji G f2 f3 f4 f5 f6;have S:=aj xZ G;have g0:=cB G f0;go_wp2_with fail;refine(vW r.ad r.cap r.xs Nq wr (aC.below S)).mono ?_;rintro e wa ⟨rfl,rfl⟩;go_wp2_with fail;refine(vW a.ad a.cap a.xs Nq wa (Q.below S)).mono ?_;rintro e wb ⟨rfl,rfl⟩;go_wp2_with fail;refine(vW d.ad d.cap d.xs Nq wb (aL.below S)).mono ?_;rintro e wc ⟨rfl,rfl⟩;go_wp2_with fail;refine Qw ?_;refine Js rfl (λK y=>⟨Y (O (aD (M (H w)) 6)),λx hx=>?_,y _ ?_⟩)
       .clear y K;go_simp
       refine Js rfl (λK y=>⟨Z g.ad (N g.xs) g.cap,λx hx=>?_,y _ ?_⟩)
       .have e6:=cB hx g6;clear y K;go_simp
       refine Js rfl (λK y=>⟨FN #[Z src.ad (N src.xs) src.cap,Z dx (N p) aP,EP l,Z a.ad (N a.xs) a.cap,Z d.ad (N d.xs) d.cap,Z r.ad (N r.xs) r.cap,Z g.ad (N g.xs) g.cap],λx hx=>?_,y _ ?_⟩)
       .obtain⟨e0,e1,e2,e3,e4⟩:=ji hx g0 g1 g2 g3 g4;obtain⟨e5,e6⟩:=gy hx g5 g6;clear y K;go_simp
       refine Js rfl (λK y=>⟨I J (rQ l a.xs d.xs r.xs),λx hx=>?_,y _ ?_⟩)
       .have t:=Qx hx (aiz ⟨src,dx,aP,p,l,a,d,r,g⟩ x (by simp only;omega) (by simp only;omega));unfold af.cells ae.val at t;clear y K;go_simp
       refine Js rfl (λK y=>⟨EP (aM g.xs (rQ l a.xs d.xs r.xs)),λx hx=>?_,y _ ?_⟩)
       .have t:=Calls.Ey hx (vW g.ad g.cap g.xs (rQ l a.xs d.xs r.xs) x ((qL.below S).below hx));clear y K;go_simp
       refine Js rfl (λK y=>⟨EP (aM g.xs (rQ l a.xs d.xs r.xs)),λx hx=>?_,y _ ?_⟩)
       .clear y K;go_simp
       refine XH ?_;intro wd aJ;have aa:=aj S aJ;obtain⟨k2,k3,k4,k5,k6⟩:=ji aJ g2 g3 g4 g5 g6;go_wp2_with fail;refine(Calls.drawn (DL a.ad a.cap a.xs wd (Q.below aa))).mono ?_;rintro e we ⟨rfl,W⟩;have zN:=aj aa W;obtain⟨g2,g3,g4,g5,g6⟩:=ji W k2 k3 k4 k5 k6;go_wp2_with fail;refine(Calls.drawn (DL g.ad g.cap g.xs we (qL.below zN))).mono ?_;rintro e wf ⟨rfl,W⟩;have X:=aj zN W;obtain⟨k2,k3,k4,k5⟩:=aej W g2 g3 g4 g5;have u:Wl (gV Nq l a.xs d.xs r.xs g.xs=F->(3:Int)=R):=λhr=>Ic.o (λh=>by have:=h.2.2.2;rw[hr]at this;cases this);have Nl:Wl (gV Nq l a.xs d.xs r.xs g.xs=T->(0:Int)=R):=λhr=>aU.o ⟨ha,by omega,sO.o,hr⟩;go_wp2
       all_goals
        go_ret
        first
        |exact⟨Qe (u.o (aen ‹_›)),X⟩
        |exact⟨Qe (u.o (aaB ‹_›)),X⟩
        |exact⟨Qe (u.o (aaC ‹_›)),X⟩
        |exact⟨Qe (u.o (aeo ‹_›)),X⟩
        |exact⟨Qe (u.o (aii ‹_›)),X⟩
        |exact⟨Qe (u.o (aij ‹_›)),X⟩
        |exact⟨Qe (u.o (aep ‹_›)),X⟩
        |exact⟨Qe (u.o (aik ‹_› ‹_›)),X⟩
        |exact⟨Qe (Nl.o (aeq ‹_› ‹_› ‹_› ‹_› ‹_› ‹_› ‹_› ‹_›)),X⟩
        |exact⟨Qe (Nl.o (aer ‹_› ‹_› ‹_› ‹_› ‹_› ‹_› ‹_› ‹_›)),X⟩
   .have aT:aM src.xs (N ts)=false:=by simpa using ha
    have HF:=Zh (Ic.o (λh=>ha h.1));go_wp2_with fail;have t:=vW src.ad src.cap src.xs (N ts) w' (P.below B);rw[aT]at t;refine t.mono ?_;rintro e w2 ⟨rfl,rfl⟩;go_wp2;go_ret;exact⟨Qe HF.o,B⟩
def ac3(p:aK):p.cells=#[I J p.kind,I Dc (p.sources:Int),I Dc (p.clauses:Int),p.order.val,I Dc (p.size:Int),I Dc (p.cost:Int)]:=rfl
def agX(k:Int)(l r s:Nat):xP k l r s<=aU:=by
 unfold xP
 repeat' split
 .exact BV _
 .exact BV _
 .exact lU _ _
def WG(p:aK)(ao:Option Addr)(cap:Nat)(ps:List aK)(w:U)(hp:bP w ao ps)(hz:p.size<=aU)(h1:p.kind≠1->0<N ps)(h2:3<=p.kind->p.kind<=5->1<N ps) :
  Cb 109 #[FN p.cells,Z ao (N ps) cap] w (I Dc (oU p.kind p.size (E ps 0 bz).cost (E ps 0 bz).size (E ps 1 bz).cost (E ps 1 bz).size:Nat)):=by
 obtain⟨w1,aM,ax,W⟩:=aX w p.cells 120;have D:=ax;have fG:=W;have dM:=fG.at 0;have eu:=fG.at 4;have HC:=Zh D;generalize aP:p.cells=PC at*;by_cases k1:p.kind=1
 .have g:Wl (oU p.kind p.size (E ps 0 bz).cost (E ps 0 bz).size (E ps 1 bz).cost (E ps 1 bz).size=kL [p.size,1]):=by show _=_;unfold oU;rw[Qu k1]
  generalize oU p.kind p.size (E ps 0 bz).cost (E ps 0 bz).size (E ps 1 bz).cost (E ps 1 bz).size=R at*;have a:=amh w1 p.size 1 hz (by unfold aU;omega);rw[<-g.o]at a;have kb:(p.kind==1)=true:=by simp[k1]
  generalize p.kind=k at*;generalize p.size=s at*;go_enter Tryz.func109,Tryz.ntmps109;go_wp2_with fail;refine a.mono ?_;rintro e w2 ⟨rfl,X⟩;have i:=Zh (aj HC.o X);clear X;go_wp2;go_ret;exact⟨rfl,i.o⟩
 have ak:=h1 k1;have aC:=hp.1;obtain⟨⟨C,po,rfl,c0,c1,c2,c3,c4,c5⟩,hl⟩:=hp.2 0 ak;rw[XI,Zp]at c0 c1 c2 c3 c4 c5;have au:Wl (1<N ps->Am w (aD C (po+6))=O (I J (E ps 1 bz).kind)/\Am w (aD C (po+6+1))=O (I Dc ((E ps 1 bz).sources:Int))/\
  Am w (aD C (po+6+2))=O (I Dc ((E ps 1 bz).clauses:Int))/\Am w (aD C (po+6+3))=O (E ps 1 bz).order.val/\
  Am w (aD C (po+6+4))=O (I Dc ((E ps 1 bz).size:Int))/\Am w (aD C (po+6+5))=O (I Dc ((E ps 1 bz).cost:Int))/\(E ps 1 bz).size<=aU/\(E ps 1 bz).cost<=aU):=λh=>by obtain⟨⟨b',o',e,d0,d1,d2,d3,d4,d5⟩,hr⟩:=hp.2 1 h;cases e;rw[Nat.one_mul]at d0 d1 d2 d3 d4 d5;exact⟨d0,d1,d2,d3,d4,d5,hr.size,hr.cost⟩
 have q:=hl.size;have t:=hl.cost;obtain⟨R,hR⟩:=eY (oU p.kind p.size (E ps 0 bz).cost (E ps 0 bz).size (E ps 1 bz).cost (E ps 1 bz).size);rw[<-hR];unfold oU at hR;rw[QC k1]at hR;have g:=Zh hR;clear hR;have G:=h2;clear hp hl h1 h2 W fG;generalize p.kind=k at*;generalize p.size=s at*;generalize E ps 0 bz=l at*;generalize E ps 1 bz=r at*;obtain⟨lk,ls,V7,⟨la,UC,lx⟩,lz,lc⟩:=l;obtain⟨rk,rs,ay,⟨ra,az,rx⟩,rz,rc⟩:=r;unfold ae.val at*;simp only at*;obtain⟨w2,aN,aa,af⟩:=aX w1 #[I J lk,I Dc (ls:Int),I Dc (V7:Int),Z la (N lx) UC,I Dc (lz:Int),I Dc (lc:Int)] 120;obtain⟨d0,d1,d2,d3,d4,d5⟩:=Dh D c0 c1 c2 c3 c4 c5;obtain⟨m0,m4⟩:=gy aa dM eu;have l4:=af.at 4;have l5:=af.at 5;have Mv:=Zh (aj HC.o aa);have aF:(k==1)=false:=by simp[k1]
 go_enter Tryz.func109,Tryz.ntmps109;go_wp2;refine Qw ?_;refine qA6 ?_;refine XH ?_;intro A ai;obtain⟨n0,n5⟩:=gy ai m0 l5;have j:=Zh (aj Mv.o ai);have av:Wl (1<N ps->_):=λh=>au.o h;by_cases B:k=3∨k=4∨k=5
 .rw[Qu B]at g;obtain⟨q0,q1,q2,q3,q4,q5,aA,aB⟩:=av.o (G (by omega) (by omega));obtain⟨e0,e1,e2,e3,e4,e5⟩:=Dh j.o q0 q1 q2 q3 q4 q5;have aG:=G (by omega) (by omega);obtain⟨w4,aO,ag,ah⟩:=aX A #[I J rk,I Dc (rs:Int),I Dc (ay:Int),Z ra (N rx) az,I Dc (rz:Int),I Dc (rc:Int)] 120;have r4:=ah.at 4;have r5:=ah.at 5;obtain⟨t0,t5⟩:=gy ag n0 n5;have u:=Zh (aj j.o ag);have v:Wl (∀x,_):=λx=>Nv k lz rz s x q aA hz
  have n:Wl (xP k lz rz s<=aU):=agX _ _ _ _;have DY:Wl (∀(x:U) (m:Nat),m<=aU->_):=λx m hm=>ami x lc rc m t aB hm;generalize xP k lz rz s=wk at*;have HK:=Zh B;rcases HK.o with h|h|h
  .subst h;go_wp2;refine wH w4 λa=>?_
   refine FD 0 a ?_;refine wR 10 λK b=>?_;go_simp;refine XO (v.o _) ?_;rintro e y ⟨rfl,d⟩;refine oT b a d λa=>?_;refine wR 11 λK b=>?_;go_simp;refine oA b a λa=>?_;refine wR 12 λK b=>?_;go_simp;refine XO (DY.o y wk n.o) ?_;rintro e w6 ⟨rfl,f⟩;refine b.o _ _ ((Below.trans (((Qr _ _).drew).trans (d.mono (by simp))) (f.mono (by have:=d.size;simp at this;omega)))) (λa=>?_);refine wR 13 λK b=>?_;go_simp;refine b.o _ _ a λa=>?_;refine wD ?_;try simp only[pU]
   have i:=Zh (aj u.o a);rw[<-g.o];go_wp2;go_ret;exact⟨rfl,i.o⟩
  .subst h;go_wp2;refine wH w4 λa=>?_
   refine FD 0 a ?_;refine wR 10 λK b=>?_;go_simp;refine XO (v.o _) ?_;rintro e y ⟨rfl,d⟩;refine oT b a d λa=>?_;refine wR 11 λK b=>?_;go_simp;refine oA b a λa=>?_;refine wR 12 λK b=>?_;go_simp;refine XO (DY.o y wk n.o) ?_;rintro e w6 ⟨rfl,f⟩;refine b.o _ _ ((Below.trans (((Qr _ _).drew).trans (d.mono (by simp))) (f.mono (by have:=d.size;simp at this;omega)))) (λa=>?_);refine wR 13 λK b=>?_;go_simp;refine b.o _ _ a λa=>?_;refine wD ?_;try simp only[pU]
   have i:=Zh (aj u.o a);rw[<-g.o];go_wp2;go_ret;exact⟨rfl,i.o⟩
  .subst h;go_wp2;refine wH w4 λa=>?_
   refine FD 0 a ?_;refine wR 10 λK b=>?_;go_simp;refine XO (v.o _) ?_;rintro e y ⟨rfl,d⟩;refine oT b a d λa=>?_;refine wR 11 λK b=>?_;go_simp;refine oA b a λa=>?_;refine wR 12 λK b=>?_;go_simp;refine XO (DY.o y wk n.o) ?_;rintro e w6 ⟨rfl,f⟩;refine b.o _ _ ((Below.trans (((Qr _ _).drew).trans (d.mono (by simp))) (f.mono (by have:=d.size;simp at this;omega)))) (λa=>?_);refine wR 13 λK b=>?_;go_simp;refine b.o _ _ a λa=>?_;refine wD ?_;try simp only[pU]
   have i:=Zh (aj u.o a);rw[<-g.o];go_wp2;go_ret;exact⟨rfl,i.o⟩
 rw[QC B]at g;have Uz:(k==3)=false:=by simp;omega
 have aH:(k==4)=false:=by simp;omega
 have aI:(k==5)=false:=by simp;omega
 by_cases k6:k=6∨k=10
 .rw[Qu k6]at g;have L:Wl (∀x,_):=λx=>Ny lz x q
  have n:Wl (aQ lz (gW lz+1)<=aU):=lU _ _;have P:Wl (∀(x:U) (m:Nat),m<=aU->_):=λx m hm=>amh x lc m t hm;generalize aQ lz (gW lz+1)=wk at*;have HK:=Zh k6;rcases HK.o with h|h
  .subst h;go_wp2;refine wH A λa=>?_
   refine wA3 0 a ?_;refine wR 3 λK b=>?_;go_simp;refine XO (L.o _) ?_;rintro e y ⟨rfl,rfl⟩;refine b.o _ _ a λa=>?_;refine wR 4 λK b=>?_;go_simp;refine oA b a λa=>?_;refine wR 5 λK b=>?_;go_simp;refine XO (P.o A.drew wk n.o) ?_;rintro e w6 ⟨rfl,f⟩;refine b.o _ _ ((((Qr _ _).drew).trans (f.mono (by simp)))) (λa=>?_);refine wR 6 λK b=>?_;go_simp;refine b.o _ _ a λa=>?_;refine wD ?_;try simp only[pU]
   have i:=Zh (aj j.o a);rw[<-g.o];go_wp2;go_ret;exact⟨rfl,i.o⟩
  .subst h;go_wp2;refine wH A λa=>?_
   refine wA3 0 a ?_;refine wR 3 λK b=>?_;go_simp;refine XO (L.o _) ?_;rintro e y ⟨rfl,rfl⟩;refine b.o _ _ a λa=>?_;refine wR 4 λK b=>?_;go_simp;refine oA b a λa=>?_;refine wR 5 λK b=>?_;go_simp;refine XO (P.o A.drew wk n.o) ?_;rintro e w6 ⟨rfl,f⟩;refine b.o _ _ ((((Qr _ _).drew).trans (f.mono (by simp)))) (λa=>?_);refine wR 6 λK b=>?_;go_simp;refine b.o _ _ a λa=>?_;refine wD ?_;try simp only[pU]
   have i:=Zh (aj j.o a);rw[<-g.o];go_wp2;go_ret;exact⟨rfl,i.o⟩
 rw[QC k6]at g;have JX:(k==6)=false:=by simp;omega
 have aJ:(k==10)=false:=by simp;omega
 by_cases k7:k=7
 .rw[Qu k7]at g;subst k7;have Q:=ami A lc lz lz t q q;rw[<-g.o]at Q;go_wp2_with fail;refine Q.mono ?_;rintro e w4 ⟨rfl,z⟩;have i:=Zh (aj j.o z);go_wp2;go_ret;exact⟨rfl,i.o⟩
 rw[QC k7]at g;have aL:(k==7)=false:=by simp;omega
 have S:=amh A lc lz t q;rw[<-g.o]at S;go_wp2_with fail;refine S.mono ?_;rintro e w4 ⟨rfl,z⟩;have i:=Zh (aj j.o z);go_wp2;go_ret;exact⟨rfl,i.o⟩
theorem MF{n:Nat}(h:s<2 ^ n)(hi:i∈di s):i<n:=by unfold di at hi;grind [Nat.testBit_lt_two_pow,Nat.lt_of_lt_of_le,Nat.pow_le_pow_right]
theorem Fe{l:List Int}(h:jm ts q l s=T):bM (N q.wh) l:=λx b=>by
 unfold jm at h;rw[Qn]at h;have d:∀i,i<N l->(if i=0 then -1 else E l (i-1) 0)<E l i 0/\E l i 0<N q.wh:=λi a=>by simp_all
 have f:∀i,i<N l->0<=E l i 0:=by
  intro i
  induction i with
  |zero=>grind
  |succ i ih =>
   grind
 obtain⟨i,a,e⟩:=Qv b;grind
def yM(g:Nat->Nat):∀(l:List Nat) (m:Nat),l.foldl (λx c=>x / g c) m<=m
 |[],m=>Qs _
 |a::l,m=>by rw[QY];exact Q6 (yM g l _) (Nat.div_le_self _ _)
theorem agY(ts:List ag)(q:af)(s c:Nat):mP ts q s c<=aU:=by
 unfold mP;have a:=lH ((di s).map λ(k:Nat)=>iO ts q.src.xs (k:Int)) 1 (by grind [aU]);split
 .omega
 .have:=yM (λc=>dN ts q.src.xs (E q.wh c lz).cs) (di c) (((di s).map λ(k:Nat)=>iO ts q.src.xs (k:Int)).foldl aQ 1);omega
theorem agZ(k:Int)(s lc ls rc rs:Nat):oU k s lc ls rc rs<=aU:=by grind [oU,BV]
theorem WH{n:ai}{l r:gz}(hs:eF n i=T)(hf:dA ts q n l r=T):bM (N q.wh) n.cl.xs/\(n.kind=1->0<=n.source/\n.source<N q.src.xs):=by
 have b:xh n=true:=by unfold eF at hs;simp_all
 have d:(n.kind=2∨3<=n.kind/\n.kind<=5)∨n.cl.xs=[]:=by unfold xh at b;grind
 unfold dA at hf;constructor
 .rcases d with h|h
  .rw[QC (by omega)]at hf;by_cases k2:n.kind=2
   .rw[Qu k2,Qm]at hf;exact Fe hf.2
   rw[QC k2]at hf;have a:kQ ts q n l.sources r.sources=true:=by grind
   unfold kQ at a;rw[Qm]at a;exact Fe a.2
  .rw[h];exact λx e=>by cases e
 grind
theorem ajT(f:bq)(ts:List ag)(q:af)(n:ai)(ao:Option Addr)(cap:Nat)(ps:List aK)(w:U)(ok:Ok ts q)(hf:f.At ts q w)(hcl:n.cl.At w)(hco:n.co.At w)(hcap:N n.co.xs<=n.co.cap)(hp:bP w ao ps)(hk:n.kind=1)(hl:N ps=arity n.kind) :
  Cb 54 #[FN (f.cells ts q),FN n.cells,Z ao (N ps) cap] w (EP (dA ts q n (E ps 0 bz).d (E ps 1 bz).d)):=by
 obtain⟨v0,v1,v2,v3,v4,v5,v6,v7,v8,v9,ah,ak,au,u,j,B,C,D,G,K,P,-⟩:=Jf f ts q;have v:n.cells=#[I J n.kind,I J n.l,I J n.r,I J n.source,n.cl.val,I J n.key,n.co.val]:=rfl;obtain⟨w1,Q,k,b⟩:=aX w ((f.cells ts q)) 63;obtain⟨w2,S,m,p⟩:=aX w1 n.cells 50;have a:=m;have g:=aj k a;have W:=b.of (a.block _ b.lt);have X:=p;obtain⟨jr,jO,jP,kM,jQ,mf,mh⟩:=X.k7;obtain⟨dM,dX,dQ,dR,eu,eU,eH,gq,gm,gp,bY,dw,bZ⟩:=W.zR (by rw[u];rfl);have aa:=hp.1;have y:N ps=0:=by rw[hl,hk];rfl
 have z:=Zh g;obtain⟨e,t⟩:∃R,R=dA ts q n (E ps 0 bz).d (E ps 1 bz).d:=⟨_,rfl⟩;rw[<-t];unfold dA at t;rw[Qu hk]at t;generalize E ps 0 bz=L at*;generalize E ps 1 bz=R at*;rw[j]at dM;have A:=Zh t;rw[u,v];rw[u]at Q;rw[v]at S;clear t b p W X k m g a y hl;clear hf hcl hco hcap hp ok u v j B C D G K P;obtain⟨nk,nl,nr,ns,⟨ca,cc,cl⟩,key,⟨da,dc,co⟩⟩:=n;simp only at hk;subst hk;simp only[aK.cells,ai.cells,ae.val]at*;generalize N q.src.xs=Nq at*;by_cases s0:0<=ns
 .by_cases s1:ns<(Nq:Int)
  .have i:Wl (e=T):=by grind
   clear A;go_enter Tryz.func54,Tryz.ntmps54;go_wp2;go_ret;exact⟨Qd i.o.symm,z.o⟩
  .have i:Wl (e=F):=by grind
   clear A;go_enter Tryz.func54,Tryz.ntmps54;go_wp2;go_ret;exact⟨Qd i.o.symm,z.o⟩
 .have i:Wl (e=F):=by grind
  clear A;go_enter Tryz.func54,Tryz.ntmps54;go_wp2;go_ret;exact⟨Qd i.o.symm,z.o⟩
theorem ajU(f:bq)(ts:List ag)(q:af)(n:ai)(ao:Option Addr)(cap:Nat)(ps:List aK)(w:U)(ok:Ok ts q)(hf:f.At ts q w)(hcl:n.cl.At w)(hco:n.co.At w)(hcap:N n.co.xs<=n.co.cap)(hp:bP w ao ps)(hk:n.kind=2)(hl:N ps=arity n.kind) :
  Cb 54 #[FN (f.cells ts q),FN n.cells,Z ao (N ps) cap] w (EP (dA ts q n (E ps 0 bz).d (E ps 1 bz).d)):=by
 obtain⟨v0,v1,v2,v3,v4,v5,v6,v7,v8,v9,ay,az,aA,t,Q,S,W,X,aa,ah,ak,-⟩:=Jf f ts q;have B:n.cells=#[I J n.kind,I J n.l,I J n.r,I J n.source,n.cl.val,I J n.key,n.co.val]:=rfl;obtain⟨w1,g,u,i⟩:=aX w ((f.cells ts q)) 63;obtain⟨w2,j,v,y⟩:=aX w1 n.cells 50;have b:=v;have a:=aj u b;have fG:=i.of (b.block _ i.lt);have jA:=y;obtain⟨jr,jO,jP,kM,jQ,mf,mh⟩:=jA.k7;obtain⟨dM,dX,dQ,dR,eu,eU,eH,gq,gm,gp,bY,dw,bZ⟩:=fG.zR (by rw[t];rfl);have av:=hp.1;have C:N ps=1:=by rw[hl,hk];rfl
 have HC:=Zh a;obtain⟨k,e⟩:∃R,R=dA ts q n (E ps 0 bz).d (E ps 1 bz).d:=⟨_,rfl⟩;rw[<-e];unfold dA at e;rw[QC (by rw[hk];decide),Qu hk]at e;have D:0<N ps:=by omega
 obtain⟨⟨pb,po,rfl,c0,c1,c2,c3,c4,c5⟩,au⟩:=(XA a hp).2 0 D;rw[XI,Zp]at c0 c1 c2 c3 c4 c5;generalize E ps 0 bz=L at*;generalize E ps 1 bz=R at*;have p:Wl (∀x,Bw w2 x->Cb 99 #[FN (f.cells ts q),n.cl.val,I Dc (L.sources:Int)] x (EP (jm ts q n.cl.xs L.sources))):=λx m=>yx f ts q n.cl.ad n.cl.cap n.cl.xs L.sources x ok (hf.below (aj a m)) (Qt (aj a m) hcl) (by have:=au.sources;unfold aU at this;omega);have ax:=hcl.1;rw[t]at p;have e:k=(decide (0<N n.cl.xs)&&jm ts q n.cl.xs L.sources):=e;generalize jm ts q n.cl.xs L.sources=RB at*;have G:=Zh e;rw[t,B];rw[t]at g;rw[B]at j;clear e i y fG jA u v a b C hl;clear hf hcl hco hcap hp ok t B Q S W X aa ah ak;obtain⟨nk,nl,nr,ns,⟨ca,cc,cl⟩,key,⟨da,dc,co⟩⟩:=n;simp only at hk;subst hk;obtain⟨lk,ls,V7,⟨la,UC,lx⟩,lz,aB⟩:=L;simp only[aK.cells,ai.cells,ae.val]at*;by_cases z:0<N cl
 .have K:Wl (k=RB):=by grind
  clear G;go_enter Tryz.func54,Tryz.ntmps54;go_upto_region 5 with fail;clear g j;refine Qw ?_;refine aio ?_;refine Gw ?_;go_big_quiet_want;refine⟨EP RB,λx m=>?_,?_⟩
  .have hC:=Qx m (p.o x m);go_simp
  simp only[pU];go_big_quiet_on;refine qS (EP RB) ?_;refine qS (EP RB) ?_;refine XH ?_;intro wE A;have P:=Zh (aj HC.o A);clear A;go_wp2;go_ret;exact⟨Qd K.o.symm,P.o⟩
 .have K:Wl (k=F):=by show _=_;rw[G.o,QX z];rfl
  obtain rfl:cl=[]:=QF (by omega);simp only[ZO]at*;clear G;go_enter Tryz.func54,Tryz.ntmps54;go_upto_region 5 with fail;clear g j;refine Qw ?_;refine qS (Y (O (aD (M (H w1)) 4))) ?_;refine qC (Z ca 0 cc) jQ ?_;refine qS (I J 0) ?_;refine qS (EP F) ?_;go_big_quiet_want;refine⟨EP F,λx m=>?_,?_⟩
  .go_simp
  simp only[pU];go_big_quiet_on;go_big_quiet_skip;try simp only[pU]
  iterate 7 (go_big_quiet_skip;try simp only[pU])
  refine qS (EP F) ?_;refine qS (EP F) ?_;refine XH ?_;intro wE A;have P:=Zh (aj HC.o A);clear A;go_wp2;go_ret;exact⟨Qd K.o.symm,P.o⟩
def ajV(f:bq)(ts:List ag)(q:af)(n:ai)(ao:Option Addr)(cap:Nat)(ps:List aK)(w:U)(ok:Ok ts q)(hf:f.At ts q w)(hcl:n.cl.At w)(hco:n.co.At w)(hcap:N n.co.xs<=n.co.cap)(hp:bP w ao ps)(hk:n.kind=3)(hl:N ps=arity n.kind) :
  Cb 54 #[FN (f.cells ts q),FN n.cells,Z ao (N ps) cap] w (EP (dA ts q n (E ps 0 bz).d (E ps 1 bz).d)):=by
 obtain⟨v0,v1,v2,v3,v4,v5,v6,v7,v8,v9,G,K,P,k,Q,S,W,X,aa,ah,ak,-⟩:=Jf f ts q;have z:n.cells=#[I J n.kind,I J n.l,I J n.r,I J n.source,n.cl.val,I J n.key,n.co.val]:=rfl;obtain⟨w1,m,p,i⟩:=aX w ((f.cells ts q)) 63;obtain⟨w2,t,u,v⟩:=aX w1 n.cells 50;have e:=u;have a:=aj p e;have fG:=i.of (e.block _ i.lt);have jA:=v;obtain⟨jr,jO,jP,kM,jQ,mf,mh⟩:=jA.k7;obtain⟨dM,dX,dQ,dR,eu,eU,eH,gq,gm,gp,bY,dw,bZ⟩:=fG.zR (by rw[k];rfl);have aC:=hp.1;have A:N ps=2:=by rw[hl,hk];rfl
 have HC:=Zh a;obtain⟨au,g⟩:∃R,R=dA ts q n (E ps 0 bz).d (E ps 1 bz).d:=⟨_,rfl⟩;rw[<-g];unfold dA at g;rw[QC (by rw[hk];decide),QC (by rw[hk];decide),Qu hk]at g;have B:0<N ps:=by omega
 obtain⟨⟨y,po,rfl,c0,c1,c2,c3,c4,c5⟩,av⟩:=(XA a hp).2 0 B;rw[XI,Zp]at c0 c1 c2 c3 c4 c5;have C:1<N ps:=by omega
 have aF:(1:Int)<(N ps:Int):=by omega
 obtain⟨⟨aG,aH,e',d0,d1,d2,d3,d4,d5⟩,ax⟩:=(XA a hp).2 1 C;cases e';rw[Nat.one_mul]at d0 d1 d2 d3 d4 d5;generalize E ps 0 bz=L at*;generalize E ps 1 bz=R at*;have j:Wl (∀x,Bw w2 x->Cb 100 #[FN (f.cells ts q),FN n.cells,FN L.cells,FN R.cells] x (EP (kQ ts q n L.sources R.sources))):=λx b=>wP f ts q n L R x ok (hf.below (aj a b)) (Qt (aj a b) hcl) av.sources ax.sources;rw[k]at j;have g:au=kQ ts q n L.sources R.sources:=g;generalize kQ ts q n L.sources R.sources=RB at*;have uf:=Zh g;rw[k,z];rw[k]at m;rw[z]at t;clear g i v fG jA p u a e A hl;clear hf hcl hco hcap hp ok k z Q S W X aa ah ak;obtain⟨nk,nl,nr,ns,⟨ca,cc,cl⟩,key,⟨da,dc,co⟩⟩:=n;simp only at hk;subst hk;obtain⟨lk,ls,V7,⟨la,UC,lx⟩,lz,ay⟩:=L;obtain⟨rk,rs,az,⟨ra,aA,rx⟩,rz,aB⟩:=R;simp only[aK.cells,ai.cells,ae.val]at*;have HV:=Zh uf.o;clear uf;go_enter Tryz.func54,Tryz.ntmps54;go_upto_region 7 with fail;clear m t;refine Qw ?_;go_big_quiet_want;refine⟨FN #[v0,v1,v2,v3,v4,v5,v6,v7,v8,v9,G,K,P],λx b=>?_,?_⟩
 .have D:=K4 b dM dX dQ dR eu eU eH gq gm gp bY dw bZ;go_simp
 simp only[pU];go_big_quiet_on;go_big_quiet_want;refine⟨FN #[I J 3,I J nl,I J nr,I J ns,Z ca (N cl) cc,I J key,Z da (N co) dc],λx b=>?_,?_⟩
 .have D:=Pk b jr jO jP kM jQ mf mh;go_simp
 simp only[pU];go_big_quiet_on;refine qS (Z (O (aD y po)) (N ps) cap) ?_;refine qS (Y (O (aD y po))) ?_;go_big_quiet_want;refine⟨FN #[I J lk,I Dc (ls:Int),I Dc (V7:Int),Z la (N lx) UC,I Dc (lz:Int),I Dc (ay:Int)],λx b=>?_,?_⟩
 .have D:=Dh b c0 c1 c2 c3 c4 c5;go_simp
 simp only[pU];go_big_quiet_on;refine qS (Z (O (aD y po)) (N ps) cap) ?_;refine qS (Y (O (aD y (po+6)))) ?_;go_big_quiet_want;refine⟨FN #[I J rk,I Dc (rs:Int),I Dc (az:Int),Z ra (N rx) aA,I Dc (rz:Int),I Dc (aB:Int)],λx b=>?_,?_⟩
 .have D:=Dh b d0 d1 d2 d3 d4 d5;go_simp
 simp only[pU];go_big_quiet_on;go_big_quiet_want;refine⟨EP RB,λx b=>?_,?_⟩
 .have hC:=Qx b (j.o x b);go_simp
 simp only[pU];go_big_quiet_on;refine qS (EP RB) ?_;refine XH ?_;intro wE rZ;have uF:=Zh (aj HC.o rZ);clear rZ;go_wp2;go_ret;exact⟨Qd HV.o.symm,uF.o⟩
def aj1(f:bq)(ts:List ag)(q:af)(n:ai)(ao:Option Addr)(cap:Nat)(ps:List aK)(w:U)(ok:Ok ts q)(hf:f.At ts q w)(hcl:n.cl.At w)(hco:n.co.At w)(hcap:N n.co.xs<=n.co.cap)(hp:bP w ao ps)(hk:n.kind=9)(hl:N ps=arity n.kind) :
  Cb 54 #[FN (f.cells ts q),FN n.cells,Z ao (N ps) cap] w (EP (dA ts q n (E ps 0 bz).d (E ps 1 bz).d)):=by
 obtain⟨v0,v1,v2,v3,v4,v5,v6,v7,v8,v9,ak,au,av,k,P,Q,m,S,W,X,aa,-⟩:=Jf f ts q;have A:n.cells=#[I J n.kind,I J n.l,I J n.r,I J n.source,n.cl.val,I J n.key,n.co.val]:=rfl;obtain⟨w1,g,p,i⟩:=aX w ((f.cells ts q)) 63;obtain⟨w2,j,t,u⟩:=aX w1 n.cells 50;have a:=t;have b:=aj p a;have fG:=i.of (a.block _ i.lt);have jA:=u;obtain⟨jr,jO,jP,kM,jQ,mf,mh⟩:=jA.k7;obtain⟨dM,dX,dQ,dR,eu,eU,eH,gq,gm,gp,bY,dw,bZ⟩:=fG.zR (by rw[k];rfl);have ah:=hp.1;have B:N ps=1:=by rw[hl,hk];rfl
 have HC:=Zh b;obtain⟨v,e⟩:∃R,R=dA ts q n (E ps 0 bz).d (E ps 1 bz).d:=⟨_,rfl⟩;rw[<-e];unfold dA at e;rw[QC (by rw[hk];decide),QC (by rw[hk];decide),QC (by rw[hk];decide),QC (by rw[hk];decide),QC (by rw[hk];decide),QC (by rw[hk];decide),QC (by rw[hk];decide),QC (by rw[hk];decide),Qu hk]at e;have C:0<N ps:=by omega
 obtain⟨⟨pb,po,rfl,c0,c1,c2,c3,c4,c5⟩,ax⟩:=(XA b hp).2 0 C;rw[XI,Zp]at c0 c1 c2 c3 c4 c5;generalize E ps 0 bz=L at*;generalize E ps 1 bz=R at*;have D:Wl (∀x,Bw w2 x->Cb 104 #[FN (f.cells ts q),FN L.cells] x (EP (jV q L.d))):=λx hx=>yI f ts q L x;rw[k]at D;rw[m]at dQ D k;have e:=e;generalize jV q L.d=RB at*;generalize q.group=gr at*;have z:=Zh e;rw[k,A];rw[k]at g;rw[A]at j;clear e i u fG jA p t b a B hl;clear hf hcl hco hcap hp ok k A P Q m S W X aa;obtain⟨nk,nl,nr,ns,⟨ca,cc,cl⟩,key,⟨da,dc,co⟩⟩:=n;simp only at hk;subst hk;obtain⟨lk,ls,V7,⟨la,UC,lx⟩,lz,ay⟩:=L;simp only[aK.cells,ai.cells,ae.val]at*
 cases gr with
 |true =>
  have G:Wl (v=F):=by show _=_;rw[z.o];rfl
  clear z;go_enter Tryz.func54,Tryz.ntmps54;go_upto_region 20 with fail;clear g j;refine Qw ?_;refine qA5 ?_;go_big_quiet_skip;try simp only[pU]
  iterate 4 (go_big_quiet_skip;try simp only[pU])
  refine Gw ?_;refine XH ?_;intro wE y;have K:=Zh (aj HC.o y);clear y;go_wp2;go_ret;exact⟨Qd G.o.symm,K.o⟩
 |false =>
  have G:Wl (v=RB):=by show _=_;rw[z.o];rfl
  clear z;go_enter Tryz.func54,Tryz.ntmps54;go_upto_region 20 with fail;clear g j;refine Qw ?_;refine qA8 ?_;refine lQ ?_;go_big_quiet_want;refine⟨EP RB,λx hx=>?_,?_⟩
  .have hC:=Qx hx (D.o x hx);go_simp
  simp only[pU];go_big_quiet_on;refine Gw ?_;refine XH ?_;intro wE y;have K:=Zh (aj HC.o y);clear y;go_wp2;go_ret;exact⟨Qd G.o.symm,K.o⟩
theorem agV(f:bq)(ts:List ag)(q:af)(n:ai)(ao:Option Addr)(cap:Nat)(ps:List aK)(w:U)(ok:Ok ts q)(hf:f.At ts q w)(hcl:n.cl.At w)(hco:n.co.At w)(hcap:N n.co.xs<=n.co.cap)(hp:bP w ao ps)(hk:n.kind=10)(hl:N ps=arity n.kind) :
  Cb 54 #[FN (f.cells ts q),FN n.cells,Z ao (N ps) cap] w (EP (dA ts q n (E ps 0 bz).d (E ps 1 bz).d)):=by
 obtain⟨v0,v1,v2,v3,v4,v5,v6,v7,v8,v9,ah,ak,au,t,C,D,G,K,P,Q,i,-⟩:=Jf f ts q;have u:n.cells=#[I J n.kind,I J n.l,I J n.r,I J n.source,n.cl.val,I J n.key,n.co.val]:=rfl;obtain⟨w1,S,j,g⟩:=aX w ((f.cells ts q)) 63;obtain⟨w2,W,k,m⟩:=aX w1 n.cells 50;have a:=k;have b:=aj j a;have X:=g.of (a.block _ g.lt);have jA:=m;obtain⟨jr,jO,jP,kM,jQ,mf,mh⟩:=jA.k7;obtain⟨dM,dX,dQ,dR,eu,eU,eH,gq,gm,gp,bY,dw,bZ⟩:=X.zR (by rw[t];rfl);have aa:=hp.1;have v:N ps=1:=by rw[hl,hk];rfl
 have HC:=Zh b;obtain⟨p,e⟩:∃R,R=dA ts q n (E ps 0 bz).d (E ps 1 bz).d:=⟨_,rfl⟩;rw[<-e];unfold dA at e;rw[QC (by rw[hk];decide),QC (by rw[hk];decide),QC (by rw[hk];decide),QC (by rw[hk];decide),QC (by rw[hk];decide),QC (by rw[hk];decide),QC (by rw[hk];decide),QC (by rw[hk];decide),QC (by rw[hk];decide)]at e;have y:0<N ps:=by omega
 obtain⟨⟨pb,po,rfl,c0,c1,c2,c3,c4,c5⟩,av⟩:=(XA b hp).2 0 y;rw[XI,Zp]at c0 c1 c2 c3 c4 c5;generalize E ps 0 bz=L at*;generalize E ps 1 bz=R at*;have e:=e;rw[i]at eH;have A:=Zh e;rw[t,u];rw[t]at S;rw[u]at W;clear e g m X jA j k b a v hl;clear hf hcl hco hcap hp ok t u C D G K P Q i;obtain⟨nk,nl,nr,ns,⟨ca,cc,cl⟩,key,⟨da,dc,co⟩⟩:=n;simp only at hk;subst hk;simp only[aK.cells,ai.cells,ae.val]at*;generalize N q.ord.xs=Nq at*;by_cases z:0<Nq
 .have B:Wl (p=T):=by grind
  clear A;go_enter Tryz.func54,Tryz.ntmps54;go_wp2;go_ret;exact⟨Qd B.o.symm,HC.o⟩
 .have B:Wl (p=F):=by show _=_;rw[A.o,QX z]
  have z0:Nq=0:=by omega
  clear A;go_enter Tryz.func54,Tryz.ntmps54;go_wp2;go_ret;exact⟨Qd B.o.symm,HC.o⟩
def aq2:Value->Nat
 |.slice _ n _=>n
 |_=>0
def getD_drop(l:List α)(d:α)(j i:Nat):E (l.drop j) i d=E l (j+i) d:=by simp[List.getD]
def getD_take(l:List α)(d:α)(h:i<j):E (l.take j) i d=E l i d:=by simp[List.getD,List.getElem?_take,h]
theorem bL.drop{w:U}{b off:Nat}{rs:List ae}(h:bL w (O (aD b off)) rs)(j:Nat):bL w (O (aD b (off+j))) (rs.drop j):=by
 obtain⟨⟨m,f,g⟩,n,k⟩:=h;have l:N (rs.drop j)=N rs-j:=List.length_drop;refine⟨⟨by omega,λi d=>?_,λi d=>?_⟩,λa r=>?_,λi d=>?_⟩
 .obtain⟨b',p,e,q⟩:=f (j+i) (by omega)
  cases e;grind
 .rw[getD_drop];exact g _ (by omega)
 .grind
 .rw[getD_drop];exact k _ (by omega)
def af3{w:U}{b off o' cap:Nat}{rs:List ae}(h:bL w (O (aD b off)) rs)(hcap:N rs<=cap)(hj:j<=N rs)(ho:j<cap->o' = off+j):bL w (O (aD b o')) (rs.drop j):=by
 by_cases f:j<cap
 .rw[ho f];exact h.drop j
 .have e:rs.drop j=[]:=List.drop_of_length_le (by omega);rw[e];exact⟨⟨by simp,λi d=>absurd d (by simp),λi d=>absurd d (by simp)⟩,λa g=>by cases g;exact h.2.1 (aD b off) rfl,λi d=>absurd d (by simp)⟩
theorem bL.take{w:U}{ao:Option Addr}{rs:List ae}(h:bL w ao rs)(j:Nat):bL w ao (rs.take j):=by
 obtain⟨⟨l,b,d⟩,f,g⟩:=h;have k:N (rs.take j)=min j (N rs):=XK;refine⟨⟨by omega,λi a=>?_,λi a=>?_⟩,f,λi a=>?_⟩
 .obtain⟨b',m,e,n⟩:=b i (by omega)
  grind
 .rw[getD_take _ _ (by omega)];exact d i (by omega)
 .rw[getD_take _ _ (by omega)];exact g i (by omega)
def wM{α:Type}{p:α->Bool}{d:α}:∀{l:List α} {j:Nat},j<=N l->(∀i,i<j->p (E l i d)=T)->(j=N l∨p (E l j d)=F)->l.dropWhile p=l.drop j
 |[],j,h,_,_=>by simp
 |a::l,0,_,_,h=>by
  rcases h with h|h
  .simp at h
  .rw[List.dropWhile_cons_of_neg (by simpa using h)];rfl
 |a::l,j+1,hj,h1,h2=>by
  have h0:=h1 0 (by omega);rw[List.dropWhile_cons_of_pos (by simpa using h0),List.drop_succ_cons];exact wM (by simpa using hj) (λi hi=>by have:=h1 (i+1) (by omega);simpa using this) (by
   rcases h2 with h2|h2
   .left;simpa using h2
   .right;simpa using h2)
def wN{α:Type}{p:α->Bool}{d:α}:∀{l:List α} {j:Nat},j<=N l->(∀i,i<j->p (E l i d)=T)->(j=N l∨p (E l j d)=F)->l.takeWhile p=l.take j
 |[],j,h,_,_=>by simp
 |a::l,0,_,_,h=>by
  rcases h with h|h
  .simp at h
  .rw[List.takeWhile_cons_of_neg (by simpa using h)];rfl
 |a::l,j+1,hj,h1,h2=>by
  have h0:=h1 0 (by omega);rw[List.takeWhile_cons_of_pos (by simpa using h0),List.take_succ_cons];congr 1;exact wN (by simpa using hj) (λi hi=>by have:=h1 (i+1) (by omega);simpa using this) (by
   rcases h2 with h2|h2
   .left;simpa using h2
   .right;simpa using h2)
def xw(k v:Int)(r:ae):Bool:=decide (dP (bN r.xs k) v<0)
def qz(k v:Int)(r:ae):Bool:=decide (bN r.xs k=v)
def Ip(ao:Option Addr)(cap:Nat)(rs:List ae)(k:Nat)(v:Int)(w:U)(hr:bL w ao rs)(hcap:N rs<=cap)(hk:∀i,i<N rs->k<(E rs i iz).xs.length) :
  Calls V 184 #[Z ao (N rs) cap,I J k,I J v] w λe w'=>∃r l,e=FR (Z r (N (rs.dropWhile (xw k v))) l)/\bL w r (rs.dropWhile (xw k v))/\N (rs.dropWhile (xw k v))<=l/\
   (∀a',r = O a'->∃a,ao=O a/\a'.block=a.block)/\w' = w:=by
 have hl:=hr.1.1;by_cases h0:N rs=0
 .have e:rs=[]:=QF h0;subst e;have S:Wl _:=hr;clear hr hk h0;go_enter Tryz.func184,Tryz.ntmps184;go_wp2;go_loopw [0] (λP wr=>P=Z ao 0 cap/\w=wr) (λ_ _=>0)
  case atStart=>exact⟨rfl,rfl⟩
  case round=>
   obtain⟨rfl,rfl⟩:=hrel;go_wp2;go_ret;exact⟨ao,cap,rfl,S.o,Q4 _,λa Q=>⟨a,Q,rfl⟩,rfl⟩
 .obtain⟨b,off,rfl,K⟩:=hr.1.2.1.get (show 0<N rs by omega);have S:Wl _:=hr;have HK:Wl _:=hk;have HC:Wl _:=K;clear hr hk K h0;go_enter Tryz.func184,Tryz.ntmps184;go_wp2;go_loopw [0] (λP wr=>∃j t:Nat,j<=N rs/\Wl (j<cap->t = off+j)/\P=Z (O (aD b t)) (N rs-j) (cap-j)/\Wl (∀i,i<j->xw k v (E rs i iz)=T)/\w=wr) (λP _=>aq2 P)
  case atStart=>exact⟨0,off,Q4 _,λ_=>rfl,rfl,λi hi=>absurd hi (by omega),rfl⟩
  case round=>
   obtain⟨j,t,hj,HO,rfl,HP,rfl⟩:=hrel;have u:Wl (bL w (O (aD b t)) (rs.drop j)):=af3 S.o hcap hj HO.o;by_cases q:j<N rs
   .obtain rfl:t = off+j:=HO.o (by omega);have y:Am w (aD b (off+j))=O (E rs j iz).val:=HC.o j q;have m:=HK.o j q;have z:=(S.o.2.2 j q).1;obtain⟨xb,xo,L,qK⟩:=Qg z m;have aa:=qK k m;have n:=λW=>tO ((E rs j iz).xs.getD k 0) v W
    have A:xw k v (E rs j iz)=decide (dP ((E rs j iz).xs.getD k 0) v<0):=by unfold xw bN;rw[Xu]
    have B:Wl _:=A;have Nz:Wl (xw k v (E rs j iz)=T->∀i,i<j+1->xw k v (E rs i iz)=T):=λh i hi=>by
     rcases XM i j with h'|h'
     .exact HP.o i h'
     .obtain rfl:i=j:=by omega
      exact h
    have g:Wl (xw k v (E rs j iz)=F->rs.dropWhile (xw k v)=rs.drop j):=λh=>wM (d:=iz) hj HP.o (.inr h);have ag:decide ((0:Int)<((N rs-j:Nat):Int))=true:=QD (by omega);clear qK z A;generalize E rs j iz=x at*;obtain⟨fO,bF,xs⟩:=x;unfold ae.val at y;simp only at y m L aa n B Nz g;subst L;by_cases f:dP (E xs k 0) v<0
    .have C:=Nz.o (by rw[B.o];exact QD f);have D:Wl _:=C;have af:decide (dP (E xs k 0) v<0)=true:=QD f;have h1:1<=N rs-j:=by omega
     have h2:N rs-j<=cap-j:=by omega
     clear Nz g B C f;generalize E xs k 0=X at*;generalize dP X v=c at*;go_wp2_with fail;refine(n _).mono ?_;rintro e w2 ⟨rfl,rfl⟩;go_wp2;go_roundw
     case rel=>
      by_cases R:cap-j=1
      .exact⟨j+1,off+j,by omega,λh=>by omega,by rw[Qu R];rfl,D,trivial⟩
      .exact⟨j+1,off+j+1,by omega,λh=>rfl,by rw[QC R];rfl,D,trivial⟩
     case measure=>simp[aq2];omega
    .have G:=g.o (by rw[B.o];exact QX f);have p:Wl _:=G;have af:decide (dP (E xs k 0) v<0)=false:=QX f;clear Nz g B G f;generalize E xs k 0=X at*;generalize dP X v=c at*;go_wp2_with fail;refine(n _).mono ?_;rintro e w2 ⟨rfl,rfl⟩;go_wp2;go_ret;refine⟨O (aD b (off+j)),cap-j,?_,?_,?_,λa' Q=>⟨(aD b off),rfl,by cases Q;rfl⟩,rfl⟩
     .rw[p.o,List.length_drop];rfl
     .rw[p.o];exact u.o
     .rw[p.o,List.length_drop];omega
   .obtain rfl:j=N rs:=by omega
    have g:Wl (rs.dropWhile (xw k v)=rs.drop (N rs)):=wM (d:=iz) hj HP.o (.inl rfl);go_wp2;go_ret;refine⟨O (aD b t),cap-N rs,?_,?_,?_,λa' Q=>⟨(aD b off),rfl,by cases Q;rfl⟩,rfl⟩
    .rw[g.o,List.length_drop];rfl
    .rw[g.o];exact u.o
    .rw[g.o,List.length_drop];omega
def Sg(ao:Option Addr)(cap:Nat)(rs:List ae)(k:Nat)(v:Int)(w:U)(hr:bL w ao rs)(hcap:N rs<=cap)(hk:∀i,i<N rs->k<(E rs i iz).xs.length) :
  Calls V 185 #[Z ao (N rs) cap,I J k,I J v] w λe w'=>∃A,e=FR (Z ao (N (rs.takeWhile (qz k v))) A)/\bL w ao (rs.takeWhile (qz k v))/\w' = w:=by
 have hl:=hr.1.1;have B:Wl _:=hr;have HK:Wl _:=hk;clear hr hk;go_enter Tryz.func185,Tryz.ntmps185;go_wp2;go_loopw [7] (λQ wr=>∃j:Nat,j<=N rs/\Q=I J j/\Wl (∀i,i<j->qz k v (E rs i iz)=T)/\w=wr) (λQ _=>N rs-(intOf Q).toNat)
 case atStart=>exact⟨0,Q4 _,rfl,λi W=>absurd W (by omega),rfl⟩
 case round=>
  obtain⟨j,D,rfl,P,rfl⟩:=hrel;by_cases f:j<N rs
  .obtain⟨b,off,rfl,y⟩:=B.o.1.2.1.get f;have m:Am w (aD b (off+j))=O (E rs j iz).val:=y j f;have g:=HK.o j f;have n:=(B.o.2.2 j f).1;obtain⟨xb,xo,z,S⟩:=Qg n g;have G:=S k g;have p:qz k v (E rs j iz)=decide ((E rs j iz).xs.getD k 0=v):=by unfold qz bN;rw[Xu]
   have q:Wl _:=p;have C:Wl (qz k v (E rs j iz)=T->∀i,i<j+1->qz k v (E rs i iz)=T):=λh i W=>by
    rcases XM i j with R|R
    .exact P.o i R
    .obtain rfl:i=j:=by omega
     exact h
   have l:Wl (qz k v (E rs j iz)=F->rs.takeWhile (qz k v)=rs.take j):=λh=>wN (d:=iz) D P.o (.inr h);clear S n p y;generalize E rs j iz=x at*;obtain⟨fO,bF,xs⟩:=x;unfold ae.val at m;simp only at m g z G q C l;subst z;by_cases a:E xs k 0=v
   .have r:=C.o (by rw[q.o];exact QD a);have K:Wl _:=r;have L:(E xs k 0==v)=true:=by simpa using a
    clear C l q r a;generalize E xs k 0=X at*;go_wp2;go_roundw
    case rel=>exact⟨j+1,by omega,by simp,K,trivial⟩
    case measure=>simp[intOf];omega
   .have t:=l.o (by rw[q.o];exact QX a);have u:Wl _:=t;have L:(E xs k 0==v)=false:=by simpa using a
    have aa:j<=cap:=by omega
    clear C l q t a;generalize E xs k 0=X at*;go_wp2;go_ret;refine⟨cap,?_,?_,rfl⟩
    .rw[u.o,XK,Nat.min_eq_left D];rfl
    .rw[u.o];exact bL.take B.o _
  .obtain rfl:j=N rs:=by omega
   have l:Wl (rs.takeWhile (qz k v)=rs.take (N rs)):=wN (d:=iz) D P.o (.inl rfl);go_wp2;go_ret;refine⟨cap,?_,?_,rfl⟩
   .rw[l.o,XK,Nat.min_eq_left D];rfl
   .rw[l.o];exact bL.take B.o _
section
def pF(lk rk:Int):List (List Int)->List (List Int)->List (List Int)
 |[],Iq=>Iq
 |a::L,Iq=>if bN a lk=1073741824 then pF lk rk L Iq else pF lk rk L (Iq.dropWhile λb=>decide (dP (bN b rk) (bN a lk)<0))
def tX(lk rk:Int)(a:List Int)(L Iq:List (List Int)):pF lk rk (a::L) Iq=if bN a lk=1073741824 then pF lk rk L Iq else pF lk rk L (Iq.dropWhile λb=>decide (dP (bN b rk) (bN a lk)<0)):=rfl
def yG(lk rk:Int)(a:List Int)(L Iq:List (List Int)):gH lk rk (a::L) Iq=if bN a lk=1073741824 then gH lk rk L Iq else
  (((Iq.dropWhile λb=>decide (dP (bN b rk) (bN a lk)<0)).takeWhile λb=>decide (bN b rk=bN a lk)).map λb=>a++b)++gH lk rk L (Iq.dropWhile λb=>decide (dP (bN b rk) (bN a lk)<0)):=rfl
def pX(lk rk:Int):∀(A B Iq:List (List Int)),pF lk rk (A++B) Iq=pF lk rk B (pF lk rk A Iq)
 |[],B,Iq=>rfl
 |a::A,B,Iq=>by
  rw[ZV,tX,tX];split
  .exact pX lk rk A B Iq
  .exact pX lk rk A B _
def mX(lk rk:Int):∀(A B Iq:List (List Int)),gH lk rk (A++B) Iq=gH lk rk A Iq++gH lk rk B (pF lk rk A Iq)
 |[],B,Iq=>rfl
 |a::A,B,Iq=>by
  rw[ZV,yG,yG,tX];split
  .exact mX lk rk A B Iq
  .rw[mX lk rk A B _,Zu]
def V3{lk rk:Int}{L L' R:List (List Int)}(h:L <+: L'):gH lk rk L R <+: gH lk rk L' R:=by obtain⟨t,rfl⟩:=h;rw[mX];exact List.prefix_append _ _
def yH{α:Type}(p:α->Bool):∀l:List α,∃k,l.dropWhile p=l.drop k
 |[]=>⟨0,rfl⟩
 |a::l=>by
  cases h:p a with
  |false=>exact⟨0,by rw[List.dropWhile_cons_of_neg (by simp[h])];rfl⟩
  |true =>
   obtain⟨k,hk⟩:=yH p l;exact⟨k+1,by rw[List.dropWhile_cons_of_pos h,hk];rfl⟩
def nM{l:List ae}(h:i<N l):E l i iz∈l:=by simp[List.getD,h]
def Ob(k v:Int)(rs:List ae):(rs.dropWhile λr=>decide (dP (bN r.xs k) v<0)).map ae.xs=(rs.map ae.xs).dropWhile λb=>decide (dP (bN b k) v<0):=by rw[List.dropWhile_map];rfl
def Oc(k v:Int)(rs:List ae):(rs.takeWhile λr=>decide (bN r.xs k=v)).map ae.xs=(rs.map ae.xs).takeWhile λb=>decide (bN b k=v):=by rw[List.takeWhile_map];rfl
def am1(tL:TypeId)(Jq:List ae->(Nat->Prop)->U->Prop)(kl kr:Int)(R:List (List Int))(qF:Option Addr)(ys:List ae)(o:Nat->Prop)(bx:Nat)(w3:U)(pre:List ae)(o1:Nat->Prop)(W':U):Prop:=
 ∃(zs:List ae) (oj:Nat->Prop) (ad':Option Addr) (cap' j:Nat),zs.map ah.key=gH kl kr (pre.map ah.key) R/\Jq zs oj W'/\(∀b,o1 b↔oj b∨b=bx)/\¬oj bx/\
   W'.heap[bx]? = O (FL #[Z ad' (N (ys.drop j)) cap'] tL)/\bL W' ad' (ys.drop j)/\N (ys.drop j)<=cap'/\(∀a',ad' = O a'->∃a,qF=O a/\a'.block=a.block)/\
   (ys.drop j).map ae.xs=pF kl kr (pre.map ah.key) R/\Kept (λb=>¬o b/\b≠bx) w3 W'/\∀b,oj b->o b∨(M (H w3)<=b/\b<M (H W'))
attribute [local go_sem] Oper.semAt_some
theorem acj(br bl Pe Mm gr gl kl kr:Nat)(ql qp:Array Value)(L R:List (List Int))(w0:U)(hbr:br<M (H w0))(hbl:bl<M (H w0))(ai8:Pe<M (H w0))(ai9:Mm<M (H w0))
  (hcr:Am w0 (aD br 0)=O (.func (.func gr) #[] ql)) (hcl:Am w0 (aD bl 0)=O (.func (.func gl) #[] qp)) (aja:Am w0 (aD Pe 0)=O (I J kl)) (ajb:Am w0 (aD Mm 0)=O (I J kr))
  (zX:Seq ah V gr ql R w0) (hsl:Seq ah V gl qp L w0)
  (egr:∀args w,(callFunc gr args).run V w=.ok (.enter gr args) w) (egl:∀args w,(callFunc gl args).run V w=.ok (.enter gl args) w)
  (hR:N R<=1000000) (PX:∀a∈L,N a<=1000) (hRl:∀a∈R,N a<=1000) (hLk:∀a∈L,kl<N a) (hRk:∀a∈R,kr<N a) :
  Seq ah V 183 #[Y (O (aD br 0)),Y (O (aD bl 0)),Y (O (aD Pe 0)),Y (O (aD Mm 0))] (gH kl kr L R) w0:=by
 intro l Jq W o hW ho hJ hY h0;have di:=(hW.cell (p:=(aD br 0)) hbr).trans hcr;have dm:=(hW.cell (p:=(aD bl 0)) hbl).trans hcl;obtain⟨HY,HO,HW,HJ,HR,dO,dQ⟩:=Dn hY ho hW hJ hR PX hRl;obtain⟨dR,bW⟩:=aV hLk hRk;have zh:Wl (Am w0 (aD Pe 0)=O (I J kl)/\Am w0 (aD Mm 0)=O (I J kr)/\Pe<M (H w0)/\Mm<M (H w0)):=⟨aja,ajb,ai8,ai9⟩;have aj:Bw W (W.alloc (FL #[.func (.yield l) #[] #[]] 108)):=bJ _ _;have bG:=(aj.cell (p:=(aD br 0)) (Q0 hbr HW.o.size)).trans di;have BP:=(aj.cell (p:=(aD bl 0)) (Q0 hbl HW.o.size)).trans dm;have FE:Am (W.alloc (FL #[.func (.yield l) #[] #[]] 108)) (aD (M (H W)) 0)=O (.func (.yield l) #[] #[]):=by simp
 have aS:M (H (W.alloc (FL #[.func (.yield l) #[] #[]] 108)))=M (H W)+1:=by simp
 refine(ZG (n:=0)).1 (Z0 Tryz.func183 rfl trivial ?_ rfl);simp only[Tryz.ntmps183,ZN,QJ,ZO,Nat.reduceAdd,Nat.reduceSub,ZP,ZQ,ZR,ZT,ZU,ZV];gi_wp2;obtain⟨w1,bX⟩:=eX (W.alloc (FL #[.func (.yield l) #[] #[]] 108));rw[bX]at aj bG BP FE aS;rw[bX];have dn:=HW.o.trans (aj.mono HW.o.size);refine⟨trivial,rfl,ZG.2 ((vS ah (λ_=>rfl) gr ql R w0 w1 dn HR.o zX egr).mono ?_)⟩;rintro e k ⟨v,ys,og,rfl,bY,hG⟩;have dw:N ys<=1000000:=by have:=congrArg N bY;rw[Q8]at this;rw[this];exact HR.o
 obtain⟨qF,iq,rfl,dS,dU⟩:=hG.had dw;have dx:N ys<=iq:=by
  rcases hG.own.2 with⟨hv,h0⟩|⟨g,cap,cur,hv,_,_,hc1,_⟩
  .omega
  grind
 have aI:=hG.below;have bH:=aI.size;obtain⟨DD,bZ⟩:=gy aI BP FE;have aU:=hG.born;have G5:=Zh bY;have HH:Wl _:=dS;obtain⟨dV,dW,dX⟩:=fe dU aU dx;have U3:=cB (bJ k (FL #[Z qF (N ys) iq] 30)) DD;gi_wp2;have FI:∀s,Kept s k (k.alloc (FL #[Z qF (N ys) iq] 30)):=λs=>ZE _ _;have aW:M (H (k.alloc (FL #[Z qF (N ys) iq] 30)))=M (H k)+1:=by simp
 have bI:(k.alloc (FL #[Z qF (N ys) iq] 30)).heap[M (H k)]? = O (FL #[Z qF (N ys) iq] 30):=ZF _ _;have GV:=cB (bJ k (FL #[Z qF (N ys) iq] 30)) bZ;obtain⟨w3,cu⟩:=eX (k.alloc (FL #[Z qF (N ys) iq] 30));rw[cu]at FI aW bI GV U3;rw[cu];have DF:∀s,Kept s W w3:=λs=>((ZA aj (λb d _=>d)).trans (ZA aI (λb d _=>d))).trans (FI s);have xZ:=HW.o.trans ((DF (λ_=>True)).below HW.o.size (λ_ _=>trivial));have bK:=bL.keep HH.o (FI (λ_=>True)).size (λa u=>(FI (λ_=>True)).block _ (HH.o.2.1 a u) trivial) (λi m b d=>(FI (λ_=>True)).block _ (ah.AV (HH.o.2.2 i m) d) trivial);have bM:Wl (∀a,qF=O a->M (H W)<=a.block/\a.block<M (H k)):=λa u=>⟨by have:=dV.o a u;omega,HH.o.2.1 a u⟩;have aJ:Wl (∀y∈ys,∀b,ah.aT y=O b->(b<M (H w0)∨M (H W)<=b)/\b<M (H k)):=λy hm b d=>by
  obtain⟨i,m,rfl⟩:=Qv hm;have e:E ys i iz=ys[i]:=by simp[List.getD,m]
  have hh:=HH.o.2.2 i m;rw[e]at hh;exact⟨(dW.o _ hm b d).imp id (by omega),ah.AV hh d⟩
 have dz:Wl _:=bK;obtain⟨DI,dY⟩:=aV DF GV;have HS:Wl (M (H w3)=M (H k)+1/\M (H w1)=M (H W)+1/\M (H w1)<=M (H k)):=⟨aW,aS,bH⟩;clear bK DF FI aW aS bH BP DD FE bZ aj aI bG U3 GV;refine oz ah (gf:=gl) (lb:=qp) rfl egl hsl xZ rfl
  (am1 30 Jq kl kr R qF ys o (M (H k)) w3)
  (λb=>o b∨b=M (H k)) ?_ ?_ ?_ (λx=>{ tmps:=#[.func (.yield l) #[] #[],Y (O (aD br 0)),Y (O (aD bl 0)),Y (O (aD Pe 0)),Y (O (aD Mm 0)),Y (O (aD (M (H W)) 0)),Y (O (aD (M (H k)) 0)),x.val,undef,.func (.func gr) #[] ql,Z qF (N ys) iq,.func (.func gl) #[] qp,x.val,undef,undef,undef,undef,undef,undef,undef,undef,undef,undef,undef,undef,undef,undef,undef,undef,undef,undef],defers:=[] }) ?assign ?body ?done
 .intro b d;have:=HS.o;have:=(DI.o (λ_=>True)).size;have:=HW.o.size;rcases d with d|d
  .exact⟨(HO.o b d).1,by have:=(HO.o b d).2;omega⟩
  .omega
 .rintro C o1 A B ⟨zs,oj,ax,z,j,hz,hj,D,af,G,P,ag,had,YP,hk,hg⟩ aB;have h1:=(DI.o (λ_=>True)).size;have hS:=HS.o;have hbl:∀b,b<M (H w3)->b<M (H A)->B.heap[b]? = A.heap[b]?:=λb d hA=>aB.block b hA (.inr d)
  have dA:M (H k)<M (H A):=by have:=hk.size;omega
  refine⟨zs,oj,ax,z,j,hz,HJ.o _ _ _ _ hj (aB.mono λb _ h=>h.imp (λh=>(D b).2 (.inl h)) (by omega)),D,af,(hbl _ (by omega) dA).trans G,?_,ag,had,YP,hk.trans' aB (λb d _=>.inr d),λb h=>(hg b h).imp id (λh=>⟨h.1,by have:=aB.size;omega⟩)⟩;refine bL.keep P aB.size (λa u=>?_) (λi m b d=>?_)
  .obtain⟨a0,dZ,e⟩:=had a u;have:=(bM.o a0 dZ).2;exact hbl _ (by omega) (P.2.1 a u)
  .have hm:=List.mem_of_mem_drop (nM m);have:=(aJ.o _ hm b d).2
   grind
 .exact⟨[],o,qF,iq,0,rfl,HJ.o _ _ _ _ h0 (DI.o _),λ_=>ZI,λh=>by have:=(HO.o _ h).2;have:=HS.o;omega,bI,dz.o,dX.o,λa u=>⟨a,u,rfl⟩,G5.o,Zx _ _,λb h=>.inl h⟩
 case assign=>
  intro l x W K hK;gi_wp2;exact hK
 case body=>
  rintro l2 C x o1 W2 ⟨zs,oj,ax,z,j,hz,hj,D,af,G,P,ag,had,YP,hk,hg⟩ ai hx aC eY;have h3:=(DI.o (λ_=>True)).size;have eO:=hk.size;have dB:=HS.o;have O6:∀b,M (H W)<=b->¬o b:=λb d h=>by have:=(HO.o b h).2;omega
  have aK:∀b,b<M (H w0)->¬o b:=λb d h=>by have:=(HO.o b h).1;omega
  have aX:∀b,b<M (H w3)->¬o b->¬oj b:=λb d h h'=>by grind
  have eP:=HW.o.size;have aL:=xZ.trans (hk.below xZ.size (λi m=>⟨aK i m,by omega⟩));have eQ:=(aL.cell (p:=(aD Pe 0)) zh.o.2.2.1).trans zh.o.1;have dC:=(aL.cell (p:=(aD Mm 0)) zh.o.2.2.2).trans zh.o.2.1;have dD:=ZY dY.o hk ⟨O6 _ (Qs _),by show M (H W)≠_;omega⟩;have dE:Am W2 (aD (M (H k)) 0)=O (Z ax (N (ys.drop j)) z):=Jc G rfl;have eT:=jM G 0;have aM:=kW ai;have aN:=dR.o _ aM;have aY:=dO.o _ aM;obtain⟨xb,xo,aQ,qK⟩:=Qg hx.1 aN;have bO:=qK kl aN;have ak:(C++[x]).map ah.key=C.map ah.key++[x.xs]:=by rw[Ql];rfl
  have aZ:∀i,i<N (ys.drop j)->kr<(E (ys.drop j) i iz).xs.length:=λi m=>bW.o _ (by rw[<-G5.o];exact Zi.2 ⟨_,List.mem_of_mem_drop (nM m),rfl⟩);have t:bN x.xs kl=E x.xs kl 0:=by unfold bN;rw[Xu]
  obtain⟨Np,Im,ed,uC,ay⟩:=J5 hx aC hk hg D;by_cases V4:E x.xs kl 0=1073741824
  .have aO:Wl (iy ah (am1 30 Jq kl kr R qF ys o (M (H k)) w3) C x (M (H w3)) o1 W2 .normal { tmps:=#[],defers:=[] } W2):=
    ⟨o1,⟨zs,oj,ax,z,j,by rw[ak,mX,<-hz];unfold gH;rw[t,Qu V4];unfold gH;rw[QN],hj,D,af,G,P,ag,had,by rw[ak,pX,<-YP];unfold pF;rw[t,Qu V4];rfl,hk,hg⟩,Zx _ _,λb h=>.inl h⟩
   have az:(E x.xs kl 0==1073741824)=true:=by simpa using V4
   clear hz hj D af G P ag had YP hk hg ai hx aC t V4 ak aZ O6 aK aX aL aM qK;obtain⟨fO,bF,gM⟩:=x;unfold ae.val;simp only at aN aY aQ bO az ⊢;subst aQ;generalize E gM kl 0=X at*;gi_wp2;exact aO.o
  .have bf:bN x.xs kl≠1073741824:=by rw[t];exact V4
   have hbl:=Ip ax z (ys.drop j) kr (E x.xs kl 0) W2 P ag aZ;obtain⟨j0,aF⟩:=yH (xw kr (E x.xs kl 0)) (ys.drop j);rw[aF,List.drop_drop]at hbl;obtain⟨j2,cz⟩:=eX (j+j0);rw[List.drop_drop]at aF;rw[cz]at hbl aF;have bg:(ys.drop j2).map ae.xs=(pF kl kr (C.map ah.key) R).dropWhile λb=>decide (dP (bN b kr) (bN x.xs kl)<0):=by rw[<-aF,<-YP,t];exact Ob _ _ _
   have bP:∀i,i<N (ys.drop j2)->kr<(E (ys.drop j2) i iz).xs.length:=λi m=>bW.o _ (by rw[<-G5.o];exact Zi.2 ⟨_,List.mem_of_mem_drop (nM m),rfl⟩);have bQ:gH kl kr ((C++[x]).map ah.key) R=zs.map ah.key++((ys.drop j2).takeWhile (qz kr (E x.xs kl 0))).map (λr=>x.xs++r.xs):=by rw[ak,mX,<-hz,yG,QC bf,<-bg];show _++(_++[])=_;rw[QN,t,<-Oc,Zm];rfl
   have bR:pF kl kr ((C++[x]).map ah.key) R=(ys.drop j2).map ae.xs:=by rw[ak,pX,tX,QC bf,<-bg];rfl
   have bS:Wl (gH kl kr ((C++[x]).map ah.key) R <+: gH kl kr L R):=V3 ai;obtain⟨aG,bC,cK,Ga⟩:=xA bQ bR bP G;have dF:Wl _:=P;obtain⟨cO,ek,HN⟩:=fe had hj af;have uY:Wl ((∀b,M (H W)<=b->¬o b)/\(∀b,b<M (H w0)->¬o b)/\∀b,b<M (H w3)->¬o b->¬oj b):=⟨O6,aK,aX⟩;have az:(E x.xs kl 0==1073741824)=false:=by simpa using V4
   clear hz hj D af G P ag had YP hk hg ai hx aC t V4 ak aZ O6 aK aX aL aM qK aF bg bP bQ bR bf cz;obtain⟨Si,bD⟩:=eX (ys.drop j2);have au:=Zh bD;rw[bD]at hbl aG bC cK;clear bD;generalize ys.drop j=rs at hbl Ga dE dF;obtain⟨fO,bF,gM⟩:=x;unfold ae.val;simp only at aN aY aQ bO az hbl aG bS bC ⊢;subst aQ;generalize fo:E gM kl 0=X at*;gi_wp2;refine⟨trivial,rfl,Z4 l2 (ZG.2 (hbl.mono ?_))⟩;rintro e Wb ⟨Ux,f,rfl,eu,cZ,eB,rfl⟩;have bn:Wl _:=eu;obtain⟨df,dh⟩:=aV cZ eB;gi_wp2;have bT:=l9 Ga.o 0 (Z Ux (N Si) f);have aa:(Wb.setCell (aD (M (H k)) 0) (Z Ux (N Si) f)).heap[M (H k)]? = O (FL #[Z Ux (N Si) f] 30):=bT;have bq:Kept (λb=>b≠M (H k)) Wb (Wb.setCell (aD (M (H k)) 0) (Z Ux (N Si) f)):=Xc _ _ _ (λh=>h rfl);obtain⟨W3,eD⟩:=eX (Wb.setCell (aD (M (H k)) 0) (Z Ux (N Si) f));rw[eD]at aa bq ⊢;have q:=bq.trans (ZA ((Qr (M (H W3)) W3).drew) (λb d _=>d));have bu:W3.drew.heap[M (H k)]? = O (FL #[Z Ux (N Si) f] 30):=aa;have bz:∀i,i<N Si->E Si i iz∈ys:=λi m=>List.mem_of_mem_drop (by rw[au.o];exact nM m);have av:∀a,Ux=O a->M (H W)<=a.block/\a.block<M (H k):=λa u=>by obtain⟨a1,h1,e1⟩:=dh.o a u;obtain⟨a0,h0,e0⟩:=cO.o a1 h1;rw[e1,e0];exact bM.o a0 h0
   have aA:=bL.keep bn.o q.size (λa u=>q.block _ (bn.o.2.1 a u) (by have:=(av a u).2;show a.block≠_;omega)) (λi m b d=>q.block _ (ah.AV (bn.o.2.2 i m) d) (by have:=(aJ.o _ (bz i m) b d).2;show b≠_;omega));have bU:=HJ.o _ _ _ _ ek.o (q.mono λb _ h=>by
    rcases h with h|h
    .intro e;exact HN.o (e ▸ h)
    .show b≠_;omega)
   have bV:=ah.keep Np.o q.size (λb d eH=>q.block b d (λe=>(Im.o b eH).1 ((ay.o b).2 (.inr e))));have bA:=Sg Ux f Si kr X W3.drew aA df.o cK.o;have dG:=ZY dC q (by grind);have dH:=ZY dD q (by show M (H W)≠_;omega);have dI:Am W3.drew (aD (M (H k)) 0)=O (Z Ux (N Si) f):=Jc bu rfl;have dJ:=q.size;have aP:∀i,i<N (Si.takeWhile (qz kr X))->E (Si.takeWhile (qz kr X)) i iz∈ys:=λi m=>List.mem_of_mem_drop (by rw[au.o];exact(List.takeWhile_sublist _).subset (nM m));have bB:∀aR,bL W3.drew Ux (Si.takeWhile (qz kr X))->_:=λaR bE=>GY l (M (H W)) Jq (gH kl kr L R) (M (H w0)) ⟨O (aD xb xo),bF,gM⟩ Ux aR (Si.takeWhile (qz kr X)) zs oj W3.drew HJ.o HY.o (by omega) bU (by rw[<-aG.o];exact bS.o) bV
    (λb d h=>(Im.o b d).1 ((ay.o b).2 (.inl h))) aY bE
    (λa u=>uY.o.2.2 _ (by have:=(av a u).2;omega) (uY.o.1 _ (av a u).1))
    (λi m a u=>by
     have h1:=aJ.o _ (aP i m) a.block (by show Option.map _ _=_;rw[u];rfl);exact uY.o.2.2 _ (by omega) (h1.1.elim (uY.o.2.1 _) (uY.o.1 _)))
    (λi m=>dQ.o _ (by rw[<-G5.o];exact Zi.2 ⟨_,aP i m,rfl⟩))
    (λb h=>by
     rcases uC.o b h with h|h
     .have:=(HO.o b h).2;omega
     .omega)
   have aO:Wl (∀(us:List ae) (o2:Nat->Prop) (W4:U) (a4:Act),us.map ah.key=(Si.takeWhile (qz kr X)).map (λr=>gM++r.xs)->Jq (zs++us) o2 W4->Kept (λb=>¬oj b) W3.drew W4->(∀b,o2 b->oj b∨(M (H W3.drew)<=b/\b<M (H W4)))->
     iy ah (am1 30 Jq kl kr R qF ys o (M (H k)) w3) C ⟨O (aD xb xo),bF,gM⟩ (M (H w3)) o1 Wb .normal a4 W4):=λus o2 W4 a4 U4 Nn Q aH=>by
    have dK:=Q.size;have dL:=(Q.block _ (by omega) HN.o).trans bu;have dM:¬o2 (M (H k)):=λh=>by
     rcases aH _ h with h|h
     .exact HN.o h
     .omega
    refine⟨λb=>o2 b∨b=M (H k),⟨zs++us,o2,Ux,f,j2,?_,Nn,λ_=>ZI,dM,?_,?_,?_,?_,?_,?_,?_⟩,?_,?_⟩
    .rw[aG.o,Ql,U4]
    .rw[au.o];exact dL
    .rw[au.o];refine bL.keep aA dK (λa u=>Q.block _ (aA.2.1 a u) (uY.o.2.2 _ (by have:=(av a u).2;omega) (uY.o.1 _ (av a u).1))) (λi m b d=>Q.block _ (ah.AV (aA.2.2 i m) d) ?_);have h1:=aJ.o _ (bz i m) b d;exact uY.o.2.2 _ (by omega) (h1.1.elim (uY.o.2.1 _) (uY.o.1 _))
    .rw[au.o];exact df.o
    .intro a' eG;obtain⟨a1,h1,e1⟩:=dh.o a' eG;obtain⟨a0,h0,e0⟩:=cO.o a1 h1;exact⟨a0,h0,e1.trans e0⟩
    .rw[au.o,bC.o]
    .refine(ed.o.trans' (q.mono λb _ h=>h) (λb _ h=>h.2)).trans' Q (λb d h=>uY.o.2.2 _ d h.1)
    .intro b d;rcases aH b d with h|h
     .exact(uC.o b h).imp id (λh=>⟨h.1,by omega⟩)
     .exact .inr ⟨by omega,h.2⟩
    .refine(q.mono λb _ h e=>h ((ay.o b).2 (.inr e))).trans' Q (λb _ h h'=>h ((ay.o b).2 (.inl h')))
    .rintro b (d|d)
     .rcases aH b d with h|h
      .exact .inl ((ay.o b).2 (.inl h))
      omega
     .exact .inl ((ay.o b).2 (.inr d))
   clear aG;generalize Si.takeWhile (qz kr X)=tw at bA bB aO aP;have lZ:Wl (Mm<M (H w0)/\Mm<M (H w3)):=⟨zh.o.2.2.2,by have:=zh.o.2.2.2;omega⟩;have dN:Wl (M (H W)<M (H w3)):=by show M (H W)<M (H w3);omega
   have uD:Wl _:=bA;have F8:=Zh bB;clear dB bz av aA bU bV aP bB aa bq q bu dJ bA;refine wO (S:=λx=>Kept (λb=>¬oj b) W3.drew x) (by kernel_rfl) (by kernel_rfl) (λ⟨_,_,h⟩=>h) ?_;have hS:Kept (λb=>¬oj b) W3.drew W3.drew:=Zx _ _;refine wt 0 (Z (O (aD xb xo)) (N gM) bF) hS ?_;refine wT 1 (Z Ux (N Si) f) hS (λx hx=>?_) ?_
   .have q1:=ZY dI hx HN.o;go_simp
   refine wT 2 (I J kr) hS (λx hx=>?_) ?_
   .have q1:=ZY dG hx (uY.o.2.2 _ lZ.o.2 (uY.o.2.1 _ lZ.o.1));go_simp
   refine wt 3 (I J X) hS ?_;refine wT 5 (.func (.yield l) #[] #[]) hS (λx hx=>?_) ?_
   .have q1:=ZY dH hx (uY.o.2.2 _ dN.o (uY.o.1 _ (Qs _)));go_simp
   refine wR 4 λK hK=>?_;go_simp;refine XO uD.o ?_;rintro e w4 ⟨aR,rfl,bE,rfl⟩;refine hK.o _ _ (Zx _ _) (λhS=>?_);refine wR 6 λK hK=>?_;go_simp;refine XO (F8.o aR bE) ?_;rintro e W4 ⟨rfl,us,o2,U4,Nn,Q,aH⟩;refine hK.o _ _ Q λhS=>?_;refine wt 7 (EP F) hS ?_;refine wD ?_;simp only[Act.put,QG,Qc,Qb];gi_wp2;exact aO.o us o2 W4 _ U4 Nn Q aH
 case done=>
  rintro us o' W2 U4 ⟨zs,oj,ax,z,j,hz,hj,D,af,G,P,ag,had,YP,hk,hg⟩ eZ eF hD;have h3:=(DI.o (λ_=>True)).size;have hS:=HS.o;gi_wp2;have eU:¬oj (M (H w3)):=λh=>by
   rcases eF _ ((D _).2 (.inl h)) with (h|h)|h
   .have:=(HO.o _ h).2;omega
   .omega
   .omega
  have xn:Kept (λb=>b≠M (H w3)) W2 (W2.putObj (M (H w3)) (.deferred none)):=ZB _ _ (λh=>h rfl);refine⟨by simp,.inl ⟨_,_,rfl,Z5 hD,?_⟩⟩;refine⟨_,Xa rfl _ _ _,⟨_,rfl⟩,zs,oj,?_,HJ.o _ _ _ _ hj (xn.mono λb _ h=>?_),((DI.o _).trans' hk (λb d h=>⟨h,by omega⟩)).trans' xn (λb d _=>by omega),λb h=>(hg b h).imp id (λh=>⟨by omega,by rw[Xb];omega⟩)⟩
  .rw[hz,U4]
  grind
end
section
attribute [local go_sem] Oper.semAt_some
def Oi(lo:Nat)(bi bc gi:Nat)(jy:Array Value)(c:ae)(rows:List (List Int))(w0:U)(hbi:bi<M (H w0))(hbc:bc<M (H w0))
  (hci:Am w0 (aD bi 0)=O (.func (.func gi) #[] jy)) (hcc:Am w0 (aD bc 0)=O c.val) (hc:c.At w0) (hcl:N c.xs<=1000)
  (hseq:Seq ah V gi jy rows w0) (GU:∀args w,(callFunc gi args).run V w=.ok (.enter gi args) w)
  (hin:∀r∈rows,aM c.xs (N r)=T) (hlo:lo<=M (H w0)) :
  Seq (lF 3 lo) V 131 #[Y (O (aD bi 0)),Y (O (aD bc 0))] (rows.map λr=>aB r c.xs) w0:=by
 intro l Jq W o hW ho hJ hY h0;have aG:=(hW.cell (p:=(aD bi 0)) hbi).trans hci;obtain⟨HY,HO,HW,HJ,LX,aN⟩:=Dm hY ho hW hJ hin hcc;have HC:Wl _:=hc;obtain⟨sO,aO⟩:=aV hcl hbc;clear hY ho hW hJ hin hci hcc hc hcl hbc;have y:Bw W (W.alloc (FL #[.func (.yield l) #[] #[]] 108)):=bJ _ _;have ak:=(y.cell (p:=(aD bi 0)) (Q0 hbi HW.o.size)).trans aG;have FE:Am (W.alloc (FL #[.func (.yield l) #[] #[]] 108)) (aD (M (H W)) 0)=O (.func (.yield l) #[] #[]):=by simp
 have S:M (H (W.alloc (FL #[.func (.yield l) #[] #[]] 108)))=M (H W)+1:=by simp
 refine(ZG (n:=0)).1 (Z0 Tryz.func131 rfl trivial ?_ rfl);simp only[Tryz.ntmps131,ZN,QJ,ZO,Nat.reduceAdd,Nat.reduceSub,ZP,ZQ,ZR,ZT,ZU,ZV];gi_wp2;obtain⟨L,af⟩:=eX (W.alloc (FL #[.func (.yield l) #[] #[]] 108));rw[af]at y ak FE S;rw[af];clear af;obtain⟨H1,H2⟩:=aV S y;clear S y ak;refine oz ah (gf:=gi) (lb:=jy) rfl GU hseq (HW.o.trans (H2.o.mono HW.o.size)) rfl
  (λk m W'=>∃f,f.map ae.xs=k.map (λr=>aB r.xs c.xs)/\Jq f m W'/\Kept (λb=>¬o b) L W'/\∀b,m b->o b∨(M (H L)<=b/\b<M (H W')))
  o ?_ ?_ ?_ (λx=>{ tmps:=#[.func (.yield l) #[] #[],Y (O (aD bi 0)),Y (O (aD bc 0)),Y (O (aD (M (H W)) 0)),x.val,.func (.func gi) #[] jy,x.val,undef,undef,undef,undef,undef,undef],defers:=[] }) ?assign ?body ?done
 .intro b a;exact⟨(HO.o b a).1,by have:=(HO.o b a).2;have:=H1.o;omega⟩
 .rintro k m A B ⟨f,P,Q,v,C⟩ ag;have h1:=H1.o;exact⟨f,P,HJ.o _ _ _ _ Q (ag.mono λb _ h=>h.imp id (by omega)),v.trans' ag (λb a _=>.inr a),λb h=>(C b h).imp id (λh=>⟨h.1,by have:=ag.size;omega⟩)⟩
 .exact⟨[],rfl,HJ.o _ _ _ _ h0 (ZA H2.o λb a _=>a),Zx _ _,λb h=>.inl h⟩
 case assign=>
  intro l x W K hK;gi_wp2;exact hK
 case body=>
  rintro l2 k x m Wr ⟨f,P,Q,v,C⟩ q hx aC aP;have g:∀s,Kept s Wr Wr.drew:=λs=>⟨rfl,rfl,rfl,Qs _,λ_ _ _=>rfl⟩;obtain⟨d,aF⟩:=eX (Wr.drew);rw[aF]at g;have aH:=Zh g;have zX:M (H d)=M (H Wr):=by rw[<-aF];rfl
  have Vv:=Zh zX
  replace Q:=HJ.o _ _ _ _ Q (g _)
  replace v:=v.trans (g _)
  replace hx:=ah.keep hx (g (λ_=>True)).size (λb a _=>(g (λ_=>True)).block b a trivial)
  rw[<-zX]at C aP;clear g zX;have h1:=H1.o;have z:=(HW.o.trans (H2.o.mono HW.o.size)).trans (v.below (by have:=HW.o.size;omega) (λi hi h=>by have:=(HO.o i h).1;omega));have aI:=(z.cell (p:=(aD bc 0)) aO.o).trans aN.o;have au:c.At d:=Qt z HC.o;have O6:∀b,M (H W)<=b->¬o b:=λb a h=>by have:=(HO.o b h).2;omega
  have aJ:=ZY FE v (O6 _ (Qs _));have av:=G7 x c d hx.1 au (LX.o _ (kW q)) sO.o;obtain⟨R,t⟩:=eX (d.alloc (FL ((aB x.xs c.xs).map (Value.int J)).toArray 3));have j:Bw d R:=by rw[<-t];exact bJ _ _
  have X:N (aB x.xs c.xs)=N c.xs:=by simp[aB]
  have PT:(lF 3 lo).At ⟨O (aD (M (H d)) 0),N (aB x.xs c.xs),aB x.xs c.xs⟩ R:=by rw[<-t];exact⟨BQ d _ _ (by rw[X];have:=sO.o;omega),λb a=>by cases a;exact Q6 hlo z.size⟩
  have ax:M (H R)=M (H d)+1:=by rw[<-t];simp
  rw[t]at av;obtain⟨aW,GV⟩:=gy j aI aJ;have PS:=HJ.o _ _ _ _ Q (ZA j (λb a _=>a));have ay:(f++[(⟨O (aD (M (H d)) 0),N (aB x.xs c.xs),aB x.xs c.xs⟩:ae)]).map (lF 3 lo).key <+: rows.map λr=>aB r c.xs:=by
   have e1:(f++[(⟨O (aD (M (H d)) 0),N (aB x.xs c.xs),aB x.xs c.xs⟩:ae)]).map (lF 3 lo).key=(k++[x]).map (λr=>aB r.xs c.xs):=by rw[Ql,Ql];show f.map ae.xs++_=_;rw[P];rfl
   rw[e1];exact afp c.xs q
  have az:∀b,m b->b<M (H d):=λb h=>by
   rcases C b h with h|h
   .have:=(HO.o b h).2;omega
   .exact h.2
  obtain⟨fn,tmps,assign,body,hy,aQ⟩:=HY.o f _ m R PS ay PT (λb a=>by
   have aa:O (M (H d))=O b:=a;cases aa;exact⟨λh=>by have:=az _ h;omega,.inr (by omega)⟩) (by omega)
  have aS:(Instr.yield l #[Z (O (aD (M (H d)) 0)) (N c.xs) (N c.xs)]).run V R=.ok (.round l fn tmps assign body) R:=by have:=hy;unfold lF ae.val at this;simp only[X]at this;exact this
  obtain⟨HZ,aX,DY⟩:=fe P j ax;have aK:Wl (∀(o2:Nat->Prop) (u:U),Jq (f++[⟨O (aD (M (H d)) 0),N (aB x.xs c.xs),aB x.xs c.xs⟩]) o2 u->Kept (λb=>¬m b) R u->
    (∀b,o2 b->m b∨(M (H R)<=b/\b<M (H u))∨((lF 3 lo).aT ⟨O (aD (M (H d)) 0),N (aB x.xs c.xs),aB x.xs c.xs⟩=O b/\M (H W)<=b))->
    ∃aj,(∃f,f.map ae.xs=(k++[x]).map (λr=>aB r.xs c.xs)/\Jq f aj u/\Kept (λb=>¬o b) L u/\∀b,aj b->o b∨(M (H L)<=b/\b<M (H u)))/\Kept (λb=>¬m b) Wr u/\
     ∀b,aj b->m b∨(M (H Wr)<=b/\b<M (H u))∨(ah.aT x=O b/\M (H L)<=b)):=by
   intro o2 u Nn D ai;have aU:=D.size;have zX:=Vv.o;have G:∀b,o2 b->m b∨(M (H d)<=b/\b<M (H u)):=λb a=>by
    rcases ai b a with h|h|⟨h,_⟩
    .exact .inl h
    .exact .inr ⟨by omega,h.2⟩
    .have aa:O (M (H d))=O b:=h
     cases aa;exact .inr ⟨Qs _,by omega⟩
   have aA:=(ZA j (λb a _=>a)).trans D;refine⟨o2,⟨_,?_,Nn,v.trans' aA ?_,?_⟩,(aH.o _).trans aA,?_⟩
   .rw[Ql,Ql,P];rfl
   .intro b a h h';rcases C b h' with h'|h'
    .exact h h'
    .omega
   .intro b a;rcases G b a with h|h
    .exact(C b h).imp id (λh=>⟨h.1,by omega⟩)
    .exact .inr ⟨by omega,h.2⟩
   .intro b a;rcases G b a with h|h
    .exact .inl h
    .exact .inr (.inl ⟨by omega,h.2⟩)
  have FT:V.follows .mixedOrders=true:=by kernel_rfl
  clear P v C az Q PS ay PT hx aC q hy z au O6 j t X ax;obtain⟨fO,bF,gM⟩:=x;obtain⟨ng,dK,gK⟩:=c;unfold ae.val at*;simp only at*;gi_wp2;gi_region_with_o (first|(refine⟨trivial,rfl,Z4 l2 (ZG.2 (av.mono ?_))⟩;rintro e w4 ⟨rfl,rfl⟩)|(refine⟨rfl,aQ.mono ?_⟩;rintro e u ⟨rfl,o2,Nn,D,ai⟩))
  all_goals gi_wp2
  all_goals exact aK.o _ _ Nn D ai
 case done=>
  rintro us o' d U4 ⟨f,P,Q,v,C⟩ aY aR hD;have h1:=H1.o;gi_wp2;have aL:¬o' (M (H L)):=λh=>by
   rcases aR _ h with h|h
   .have:=(HO.o _ h).2;omega
   .omega
  have xn:Kept (λb=>b≠M (H L)) d (d.putObj (M (H L)) (.deferred none)):=ZB _ _ (λh=>h rfl);refine⟨by simp,.inl ⟨_,_,rfl,Z5 hD,?_⟩⟩;refine⟨_,Xa rfl _ _ _,⟨_,rfl⟩,f,o',?_,HJ.o _ _ _ _ Q (xn.mono λb _ h=>?_),((ZA H2.o (λb a _=>a)).trans' v (λb _ h=>h)).trans' xn (λb a _=>by omega),λb h=>(C b h).imp id (λh=>⟨by omega,by rw[Xb];omega⟩)⟩
  .show f.map ae.xs=_
   rw[P,<-U4,Zm];rfl
  .rcases h with h|h
   .intro e;exact aL (e ▸ h)
   .omega
def Kr(vi:Value)(c:ae)(rows:List (List Int))(w:U)(hi:eT ah V vi rows w)(hc:c.At w)(hcl:N c.xs<=1000)(hin:∀r∈rows,aM c.xs (N r)=T) :
  Calls V 64 #[vi,c.val] w λe k=>∃v,e=FR v/\yJ V 3 v (rows.map λr=>aB r c.xs) k/\Bw w k:=by
 obtain⟨g,i,rfl,n,d⟩:=hi;have a:=bJ w (FL #[.func (.func g) #[] i] 70);have b:=bJ (w.alloc (FL #[.func (.func g) #[] i] 70)) (FL #[c.val] 23);have f:=a.trans (b.mono a.size);have j:yJ V 3 (.func (.func 131) #[] #[Y (O (aD (M (H w)) 0)),Y (O (aD (M (H w)+1) 0))]) (rows.map λr=>aB r c.xs) ((w.alloc (FL #[.func (.func g) #[] i] 70)).alloc (FL #[c.val] 23)):=
  ⟨_,_,rfl,X9 Tryz.func131 (by kernel_rfl) rfl,Oi _ (M (H w)) (M (H w)+1) g i c rows _ (by simp;omega) (by simp) (by simp) (by simp) (Qt f hc) hcl (Seq.later _ d f) n hin (Qs _)⟩
 obtain⟨p,q,t⟩:=c;unfold ae.val at*;simp only at*;have l:Wl _:=j;have m:=Zh f;clear j f a b d hc hcl hin;go_enter Tryz.func64,Tryz.ntmps64;go_wp2;go_ret;exact⟨_,rfl,l.o,m.o⟩
end
