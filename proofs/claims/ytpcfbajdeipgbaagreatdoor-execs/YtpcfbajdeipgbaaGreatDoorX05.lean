import Derived.Test.YtpcfbajdeipgbaaGreatDoorX02
import Derived.Test.YtpcfbajdeipgbaaGreatDoorX04
set_option linter.all false
set_option maxRecDepth 100000
set_option maxHeartbeats 0
namespace Go.Proofs.Zz
open Go.RowKit Go.Shelf
open List renaming length->N,getD->E
open Go.Value renaming slice->Z,int->I,bool->EP,agg->FN
open Go.Proofs.Tryz renaming prog->V
open Option renaming some->O
open Go.IntKind renaming i64->J,u64->Dc
open Bool renaming false->F,true->T
open Go renaming World->U
open Go.World renaming heap->H,cell?->Am
open _root_.Array renaming size->M
open Go.RowKit renaming Hid->Wl
open Go.Obj renaming cells->FL
open Go.Ending renaming returned->FR
variable {base fuel i k n:Nat} {Fq:Fence} {P:Program} {md:Region.Mode} {ops:Array Oper} {Q:Exit->Act->U->Prop} {listed:Array Bool} {a:Act} {w:U} {o p:Oper} {S:U->Prop} {ts:List ag} {src xs:List Int} {c:Int} {e:TypeId} {v:Value} {cs:List aF} {ao:Option Addr} {q:af}
def nS(ts:List ag)(q:af)(xs:List Int):List Int:=xs.map λc=>(au ts q.src.xs c:Int)
def jq(cs:List aF):Int × Int × Bool:=
 if N cs > 1∨(E cs 0 cz).op≠0∨(E cs 0 cz).not=T∨(E cs 0 cz).const=T then (0,0,F) else ((E cs 0 cz).left,(E cs 0 cz).right,T)
theorem abA:∀(f x:Nat),x<=f->x<2 ^ 64->gW x=Lib.bitLen x:=by
 intro f
 induction f with
 |zero =>
  intro x a _;obtain rfl:x=0:=by omega
  rw[oV];rfl
 |succ f ih =>
  intro x a h;by_cases b:x=0
  .grind
  .rw[uI (by omega),Lib.bitLen_half x b h,ih (x / 2) (by omega) (by omega),Nat.add_comm]
theorem U6(x:Nat)(h:x<2 ^ 64):gW x<=64:=by
 have key:∀(f x:Nat),x<2 ^ f->gW x<=f:=by
  intro f
  induction f with
  |zero =>
   intro x a;obtain rfl:x=0:=by omega
   rw[oV];omega
  |succ f ih =>
   intro x a;by_cases b:x=0
   .subst b;rw[oV];omega
   .rw[uI (by omega)]
    grind
 exact key 64 x h
theorem BV(l:List Nat):kL l<=aU:=by rw[BF];exact Nat.min_le_right _ _
def afd{l:List Nat}(hk:k<N l):(l.take (k+1)).sum=(l.take k).sum+E l k 0/\(l.take (k+1)).sum<=l.sum:=by
 have e:E l k 0=l[k]:=by simp[List.getD,hk]
 refine⟨by rw[Qh hk,e,List.sum_append];simp,?_⟩;have h:l.sum=(l.take (k+1)).sum+(l.drop (k+1)).sum:=by rw[<-List.sum_append,Xo]
 omega
def abB{l:List Nat}{k:Nat}(hk:k<N l)(h:aU-kL (l.take k)<E l k 0):kL l=aU:=by obtain⟨a,b⟩:=afd hk;rw[BF]at h ⊢;omega
def U7{l:List Nat}{k:Nat}(hk:k<N l)(h:¬aU-kL (l.take k)<E l k 0):kL (l.take (k+1))=kL (l.take k)+E l k 0:=by
 have e:E l k 0=l[k]:=by simp[List.getD,hk]
 have a:kL (l.take (k+1))=bG (kL (l.take k)) (E l k 0):=by rw[Qh hk,e];unfold kL;rw[Zv];rfl
 have:=BV (l.take k);rw[a];unfold bG;omega
def abC{a b:Nat}(h:0<a*b / 18446744073709551616):aQ a b=18446744073709551615:=by unfold aQ aU;omega
def abD{a b:Nat}(h:¬0<a*b / 18446744073709551616):aQ a b=a*b % 18446744073709551616:=by unfold aQ aU;omega
def U8(w:U)(xs:List Nat)(t:TypeId)(hl:N xs<=1000):iB (w.alloc (FL (xs.map λ(x:Nat)=>Value.int Dc (x:Int)).toArray t)) (O (aD (M (H w)) 0)) xs:=by refine⟨hl,λi a=>⟨M (H w),0,rfl,?_⟩⟩;simp only[World.cell?,iX w _];simp[List.getD,a]
def Tryz.Re:Go.Shelf.Ren:=⟨fun|129=>175|264=>174|n=>n,fun|3=>3|4=>4|5=>5|9=>9|46=>58|53=>72|n=>n,fun|n=>n⟩
def Tryz.ap2:Go.Proofs.Lays.n129 V Tryz.Re:={
 mixed:=by kernel_rfl
 f129:=Tryz.func175.trans (congrArg O (by kernel_rfl))
 t3:=Tryz.underlying3
 a3:=Tryz.isAgg3
 z3:=Tryz.sizeOf3
 v3:=Tryz.zeroValue3
 t4:=Tryz.underlying4
 a4:=Tryz.isAgg4
 z4:=Tryz.sizeOf4
 v4:=Tryz.zeroValue4
 t5:=Tryz.underlying5
 a5:=Tryz.isAgg5
 z5:=Tryz.sizeOf5
 v5:=Tryz.zeroValue5
 t9:=Tryz.underlying9
 a9:=Tryz.isAgg9
 z9:=Tryz.sizeOf9
 v9:=Tryz.zeroValue9
 t46:=Tryz.underlying58
 a46:=Tryz.isAgg58
 z46:=Tryz.sizeOf58
 v46:=Tryz.zeroValue58
 t53:=Tryz.underlying72
 a53:=Tryz.isAgg72
 z53:=Tryz.sizeOf72
 v53:=Tryz.zeroValue72 }
def Tryz.ap3:Go.Proofs.Lays.n264 V Tryz.Re:={
 mixed:=by kernel_rfl
 f264:=Tryz.func174.trans (congrArg O (by kernel_rfl))
 t46:=Tryz.underlying58
 a46:=Tryz.isAgg58
 z46:=Tryz.sizeOf58
 v46:=Tryz.zeroValue58
 t53:=Tryz.underlying72
 a53:=Tryz.isAgg72
 z53:=Tryz.sizeOf72
 v53:=Tryz.zeroValue72 }
def abE(x:Nat)(w:U)(hx:x<=aU):Ce 175 #[I Dc (x:Int)] w (I J (gW x:Nat)):=by
 have h:=Go.Proofs.Any.bits_Len64 Tryz.ap2 (x:Int) w (by omega) (by unfold aU at hx;omega);have e:Lib.bitLen (x:Int).toNat=gW x:=by rw[Xu];exact(abA x x (Qs _) (by unfold aU at hx;omega)).symm
 rw[e]at h;exact h
def abF(x y:Nat)(w:U)(hx:x<=aU)(hy:y<=aU):Ce 174 #[I Dc (x:Int),I Dc (y:Int)] w (.tuple #[I Dc ((x*y / 18446744073709551616:Nat):Int),I Dc ((x*y % 18446744073709551616:Nat):Int)]):=
 Go.Proofs.Any.bits_Mul64 Tryz.ap3 x y (by unfold aU at hx;omega) (by unfold aU at hy;omega) w
def AY(a b:Nat)(w:U)(ha:a<=aU)(hb:b<=aU):Ce 152 #[I Dc (a:Int),I Dc (b:Int)] w (I Dc (aQ a b:Nat)):=by
 have d:=abF a b w ha hb;have f:Wl _:=@abC a b;have g:Wl _:=@abD a b;generalize a*b / 18446744073709551616=hi at*;generalize a*b % 18446744073709551616=lo at*;generalize aQ a b=t at*;clear ha hb;go_enter Tryz.func152,Tryz.ntmps152;go_wp2_with fail;refine d.mono ?_;clear d;rintro e i ⟨rfl,rfl⟩;by_cases h:0<hi
 .go_wp2;go_ret;exact⟨Qe (by rw[f.o h];rfl),rfl⟩
 .go_wp2;go_ret;exact⟨Qe (by rw[g.o h]),rfl⟩
theorem aiy(ao:Option Addr)(cap:Nat)(xs:List Nat)(w:U)(hx:iB w ao xs)(hs:∀x∈xs,x<=aU) :
  Ce 153 #[Z ao (N xs) cap] w (I Dc (kL xs:Nat)):=by
 have y:=hx.1;have n:Wl _:=hx;have p:Wl _:=hs;have q:Wl (kL (xs.take (N xs))=kL xs):=by show _=_;rw[Zb]
 clear hx hs;go_enter Tryz.func153,Tryz.ntmps153;go_wp2;go_loopw [3,8] (λv j wr=>∃k:Nat,k<=N xs/\j=I J k/\(∃s:Nat,v=I Dc (s:Int)/\Wl (s=kL (xs.take k)))/\wr=w) (λ_ j _=>N xs-(intOf j).toNat)
 case atStart=>exact⟨0,Q4 _,rfl,⟨0,rfl,rfl⟩,rfl⟩
 case round=>
  obtain⟨k,z,rfl,⟨s,rfl,hs⟩,rfl⟩:=hrel;by_cases a:k<N xs
  .obtain⟨b,off,rfl,m⟩:=iB.get n.o a;have r:=m k a;have l:=p.o _ (Xx a (d:=0));have f:Wl _:=@abB xs k a;have g:Wl _:=@U7 xs k a;have t:s<=18446744073709551615:=by rw[hs.o];exact BV _
   rw[<-hs.o]at f g;have u:E xs k 0<=18446744073709551615:=l;clear m l;generalize E xs k 0=x at*;by_cases e:18446744073709551615-s<x
   .have i:Wl (kL xs=18446744073709551615):=f.o e;clear f g hs;go_wp2;go_ret;exact⟨Qe (by rw[i.o];rfl),rfl⟩
   .have i:Wl _:=g.o e;clear f g hs;go_wp2;go_roundw
    case rel=>grind
    case measure=>simp[intOf];omega
  .obtain rfl:k=N xs:=by omega
   have i:Wl (s=kL xs):=hs.o.trans q.o;clear hs;go_wp2;go_ret;exact⟨Qe (by rw[i.o]),rfl⟩
def He(w:U)(xs:List Nat)(hl:N xs<=1000)(hs:∀x∈xs,x<=aU) :
  Calls V 153 #[Z (O (aD (M (H w)) 0)) (N xs) (N xs)] (w.alloc (FL (xs.map λ(x:Nat)=>Value.int Dc (x:Int)).toArray 72)) λe a=>e=FR (I Dc (kL xs:Nat))/\a = w.alloc (FL (xs.map λ(x:Nat)=>Value.int Dc (x:Int)).toArray 72):=
 aiy _ _ xs _ (U8 w xs _ hl) hs
theorem amh(w:U)(a b:Nat)(ha:a<=aU)(hb:b<=aU) :
  Calls V 153 #[Z (O (aD (M (H w)) 0)) 2 2] (w.alloc (FL #[I Dc (a:Int),I Dc (b:Int)] 72)) λe d=>e=FR (I Dc (kL [a,b]:Nat))/\Bw w d:=
 (He w [a,b] (by simp) (λx f=>by grind)).mono λ_ _ ⟨h1,h2⟩=>⟨h1,by rw[h2];exact bJ _ _⟩
theorem ami(w:U)(a b c:Nat)(ha:a<=aU)(hb:b<=aU)(hc:c<=aU) :
  Calls V 153 #[Z (O (aD (M (H w)) 0)) 3 3] (w.alloc (FL #[I Dc (a:Int),I Dc (b:Int),I Dc (c:Int)] 72)) λe d=>e=FR (I Dc (kL [a,b,c]:Nat))/\Bw w d:=
 (He w [a,b,c] (by simp) (λx f=>by grind)).mono λ_ _ ⟨h1,h2⟩=>⟨h1,by rw[h2];exact bJ _ _⟩
theorem awc(w:U)(a b c d:Nat)(ha:a<=aU)(hb:b<=aU)(hc:c<=aU)(hd:d<=aU) :
  Calls V 153 #[Z (O (aD (M (H w)) 0)) 4 4] (w.alloc (FL #[I Dc (a:Int),I Dc (b:Int),I Dc (c:Int),I Dc (d:Int)] 72)) λe f=>e=FR (I Dc (kL [a,b,c,d]:Nat))/\Bw w f:=
 (He w [a,b,c,d] (by simp) (λx g=>by grind)).mono λ_ _ ⟨h1,h2⟩=>⟨h1,by rw[h2];exact bJ _ _⟩
def Nv(k:Int)(l r s:Nat)(w:U)(hl:l<=aU)(hr:r<=aU)(hs:s<=aU) :
  Cb 154 #[I J k,I Dc (l:Int),I Dc (r:Int),I Dc (s:Int)] w (I Dc (xP k l r s:Nat)):=by
 by_cases f:k=4
 .subst f;have h:=awc w l r r s hl hr hr hs;have a:xP 4 l r s=kL [l,r,r,s]:=rfl;rw[a];generalize kL [l,r,r,s]=x at*;clear hl hr hs a;go_enter Tryz.func154,Tryz.ntmps154;go_wp2_with fail;refine h.mono ?_;clear h;rintro e d ⟨rfl,b⟩;go_wp2;go_ret;exact⟨rfl,b⟩
 by_cases g:k=5
 .subst g;have h:=ami w l r s hl hr hs;have a:xP 5 l r s=kL [l,r,s]:=rfl;rw[a];generalize kL [l,r,s]=x at*;clear hl hr hs a;go_enter Tryz.func154,Tryz.ntmps154;go_wp2_with fail;refine h.mono ?_;clear h;rintro e d ⟨rfl,b⟩;go_wp2;go_ret;exact⟨rfl,b⟩
 have h:=AY l r w hl hr;have a:xP k l r s=aQ l r:=by unfold xP;rw[QC f,QC g]
 rw[a];generalize aQ l r=x at*;clear hl hr hs a;go_enter Tryz.func154,Tryz.ntmps154;go_wp2_with fail;refine h.mono ?_;clear h;rintro e d ⟨rfl,rfl⟩;go_wp2;go_ret;exact⟨rfl,Qr _ _⟩
def Ny(l:Nat)(w:U)(hl:l<=aU) :
  Ce 155 #[I Dc (l:Int)] w (I Dc (aQ l (gW l+1):Nat)):=by have a:=abE l w hl;have d:gW l<=64:=U6 l (by unfold aU at hl;omega);have b:=AY l (gW l+1) w hl (by unfold aU;omega);generalize gW l=n at*;generalize aQ l (n+1)=x at*;clear hl;go_enter Tryz.func155,Tryz.ntmps155;go_wp2_with fail;refine a.mono ?_;clear a;rintro e f ⟨rfl,rfl⟩;go_wp2_with fail;refine b.mono ?_;clear b;rintro e g ⟨rfl,rfl⟩;go_wp2;go_ret;exact⟨rfl,rfl⟩
def iT{oi:Oper}(i:Nat)(v:Value)(h:wpAnyIn Fq n P md ops Q fuel (listed.setIfInBounds i true) (a.put oi.dst v) w)(hr:(Region.ready md ops listed).contains i=true:=by decide +kernel)(hi:ops[i]? = some oi:=by exact rfl)(hro:Fq.round=none:=by exact rfl)(hs:Region.noSelect ops=true:=by kernel_rfl)(hf:Region.free md ops listed i=true:=by kernel_rfl)(hQ:∀c a w,Q (.panic c) (a.put oi.dst v) w->Q (.panic c) a w:=by exact λ_ _ _ h=>h)(hy:YieldsFenced P ops oi v a:=by exact⟨Or.inl ⟨by rfl,λw=>by go_simp⟩,λ_=>rfl⟩):wpAnyIn Fq n P md ops Q (fuel+1) listed a w:=
 wpAnyIn_take hro hi hs hf hr hQ hy h
@[reducible] def OpK (Fq:Fence) (n:Nat) (P:Program) (md:Region.Mode) (ops:Array Oper) (Q:Exit->Act->U->Prop) (fuel:Nat) (listed:Array Bool) (a:Act) (w:U) (i:Nat) (o:Oper):Prop:=
 ∀K:Act->U->Prop,(∀a w,wpAnyIn Fq n P md ops Q fuel (listed.setIfInBounds i T) a w->K a w)->if Region.wanted o (yielded ops a.tmps)=T then Oper.wpIn Fq n P o a w K Q else (∀f,o.about P w a.eval=O f->Fq.fn f)/\K (a.put o.dst undef) w
def iQ(i:Nat)(h:OpK Fq n P md ops Q fuel listed a w i o)(hr:Region.ready md ops listed=[i]:=by decide +kernel)(hi:ops[i]? = some o:=by exact rfl):wpAnyIn Fq n P md ops Q (fuel+1) listed a w:=
 wpAnyIn_ready hr (by simp) (AllReadyIn.cons hi h AllReadyIn.nil)
def iJ(i j:Nat)(h:OpK Fq n P md ops Q fuel listed a w i o)(k:OpK Fq n P md ops Q fuel listed a w j p)(hr:Region.ready md ops listed=[i,j]:=by decide +kernel)(hi:ops[i]? = some o:=by exact rfl)(hj:ops[j]? = some p:=by exact rfl):wpAnyIn Fq n P md ops Q (fuel+1) listed a w:=
 wpAnyIn_ready hr (by simp) (AllReadyIn.cons hi h (AllReadyIn.cons hj k AllReadyIn.nil))
def iD(h:Q .normal a w)(hr:Region.ready md ops listed=[]:=by decide +kernel):wpAnyIn Fq n P md ops Q fuel listed a w:=
 wpAnyIn_done hr h fuel
def kR(i:Nat)(h:∀K':Act->World->Prop,Shut (∀a w,S w->(S w->wpAnyH P md ops Q S fuel (listed.setIfInBounds i true) a w)->K' a w)->if Region.wanted o (yielded ops a.tmps)=true then Oper.wp P o a w K' Q else K' (a.put o.dst undef) w)(hr:Region.ready md ops listed=[i]:=by decide +kernel)(hi:ops[i]? = some o:=by exact rfl):wpAnyH P md ops Q S (fuel+1) listed a w:=
 wR i h hi hr
def kJ(i j:Nat)(h:∀K':Act->World->Prop,Shut (∀a w,S w->(S w->wpAnyH P md ops Q S fuel (listed.setIfInBounds i true) a w)->K' a w)->if Region.wanted o (yielded ops a.tmps)=true then Oper.wp P o a w K' Q else K' (a.put o.dst undef) w)(k:∀K':Act->World->Prop,Shut (∀a w,S w->(S w->wpAnyH P md ops Q S fuel (listed.setIfInBounds j true) a w)->K' a w)->if Region.wanted p (yielded ops a.tmps)=true then Oper.wp P p a w K' Q else K' (a.put p.dst undef) w)(hr:Region.ready md ops listed=[i,j]:=by decide +kernel)(hi:ops[i]? = some o:=by exact rfl)(hj:ops[j]? = some p:=by exact rfl):wpAnyH P md ops Q S (fuel+1) listed a w:=
 wJ i j h k hi hj hr
def kD(h:Q .normal a w)(hr:Region.ready md ops listed=[]:=by decide +kernel):wpAnyH P md ops Q S fuel listed a w:=wD h hr
def kG(i:Nat)(h:wpAnyH P md ops Q S fuel listed a w)(_:(Region.ready md ops listed).contains i=true:=by decide +kernel):wpAnyH P md ops Q S fuel listed a w:=h
def yh(hc:dL ts=T)(hi:i<N ts):dJ (E ts i tz)=true:=by
 cases h:dJ (E ts i tz) with
 |true=>rfl
 |false=>rw[<-Bu hi h]at hc;cases hc
def yj(hc:dL ts=T)(ha:aM src (N ts)=T)(h0:0<=c)(hl:c<ak ts src):1<=fD ts src c/\fD ts src c<=1000000:=by
 obtain⟨d,j,k,e⟩:=Za hc ha h0 hl;have f:=Qk ts src (au ts src c) d;have g:=Qp hc ha (au ts src c) (by omega);have i:=Qo ha d;have a:E src (au ts src c) 0=src[au ts src c]:=by simp[List.getD,d]
 rw[a]at e;have b:dJ (E ts (src[au ts src c]).toNat tz)=true:=yh hc (by omega);unfold dJ at b;rw[Qz]at b;rw[e];exact b.2.2.2.2 _ (by omega)
def abJ(ao:Option Addr)(cap:Nat)(ts:List ag)(q:af)(k:Nat)(w:U)(hx:aN w ao ts)(hc:dL ts=T)(hq:q.At w)(h5:N q.src.xs<=5)(ha:aM q.src.xs (N ts)=T)(hk:k<N q.wh)(fJ:∀c∈aG (E q.wh k lz).cs,0<=c/\c<ak ts q.src.xs) :
  Cb 134 #[Z ao (N ts) cap,FN q.cells,I J k] w (I Dc (dN ts q.src.xs (E q.wh k lz).cs:Nat)):=by
 have r:Wl (∀c∈aG (E q.wh k lz).cs,(∀x,Bw w x->Cb 170 #[Z ao (N ts) cap,FN q.cells,I J c] x (I J (fD ts q.src.xs c)))/\1<=fD ts q.src.xs c/\fD ts q.src.xs c<=1000000):=λc hm=>
  ⟨λx hb=>abI ao cap ts q c x (hx.below hb) hc (Qt hb hq.src) h5 ha (fJ c hm).1 (fJ c hm).2,yj hc ha (fJ c hm).1 (fJ c hm).2⟩
 clear fJ hc ha hx;have aA:=hq.wh.1;obtain⟨wb,P,Ve,Q⟩:=Qf hq.wh.2.1 hk;have t:=Q k hk;have j:=hq.wh.2.2 k hk;clear Q hq;obtain⟨w1,y⟩:∃x,x=w.alloc (FL q.cells 26):=⟨_,rfl⟩;have b:Bw w w1:=by rw[y];exact bJ _ _
 have fV:GB w1 (M (H w)) 26 q.cells:=by rw[y];exact iX _ _
 obtain⟨⟨R,S,xs⟩,dx,W,D,d,⟨X,eQ,dU⟩,⟨F4,qZ,JV⟩,⟨zZ,mW,tJ⟩,⟨JW,sQ,Hf⟩⟩:=q;unfold af.cells ae.val at*;simp only at*;subst Ve;generalize E D k lz=cl at*;obtain⟨ca,cc,cs⟩:=cl;unfold az.val at t;simp only at t j r ⊢;obtain⟨q0,q1,q2,q3,q4,q5,q6⟩:=fV.k7;have uE:=y.symm;have ah:=cB b t;clear y fV t;have ai:=j.1;by_cases i:N cs=1
 .obtain⟨cb,co,rfl,c0,c1,c2,c3,c4⟩:=j.2 0 (by omega);obtain⟨d0,d1,d2,d3,d4⟩:=ji b c0 c1 c2 c3 c4;have pE:Wl (aG cs=aL (E cs 0 cz)):=by
   show _=_
   match cs,i with
   |[c],_=>simp[aG]
  have z:Wl (dN ts xs cs=if (E cs 0 cz).not=T then 2 else if (E cs 0 cz).op=1 then 3 else if (E cs 0 cz).op=2 then 10 else if (E cs 0 cz).const=T then (fD ts xs (E cs 0 cz).left).toNat
    else max (fD ts xs (E cs 0 cz).left).toNat (fD ts xs (E cs 0 cz).right).toNat):=by
   show _=_;unfold dN;by_cases e:(E cs 0 cz).not=T
   .rw[Qu (.inr e),Qu e]
   .rw[QC (λh=>h.elim (absurd i) e),QC e]
  clear c0 c1 c2 c3 c4 j;generalize E cs 0 cz=c at*;obtain⟨ay,op,left,l,right⟩:=c;simp only[XI,Zp]at d0 d1 d2 d3 d4 pE z;rw[i]at ah;have G:=r.o;rw[pE.o]at G;unfold aL at G;simp only at G;have u:=Zh G;clear G r pE ai
  cases ay with
  |true =>
   go_enter Tryz.func134,Tryz.ntmps134;go_wp2;go_ret;exact⟨by rw[z.o];rfl,b⟩
  |false =>
   by_cases o1:op=1
   .subst o1;go_enter Tryz.func134,Tryz.ntmps134;go_wp2;go_ret;exact⟨by rw[z.o];rfl,b⟩
   by_cases o2:op=2
   .subst o2;go_enter Tryz.func134,Tryz.ntmps134;go_wp2;go_ret;exact⟨by rw[z.o];rfl,b⟩
   have b1:(op==1)=false:=by simp[o1]
   have b2:(op==2)=false:=by simp[o2]
   have B:Wl (dN ts xs cs=if l=T then (fD ts xs left).toNat else max (fD ts xs left).toNat (fD ts xs right).toNat):=by show _=_;rw[z.o,QC (by simp),QC o1,QC o2]
   clear z;have f:=u.o left (by split <;> simp);have g:=f.1;have au:=f.2;clear f;obtain⟨K,hK⟩:=eY (fD ts xs left)
   rw[<-hK]at g au B;clear hK;obtain⟨n,rfl⟩:∃n:Nat,K=n:=⟨K.toNat,by omega⟩;have A:=Zh g;clear g
   cases l with
   |true =>
    clear u;have v:Wl (dN ts xs cs=n):=by show _=_;rw[B.o,Qu rfl];rfl
    clear B;go_enter Tryz.func134,Tryz.ntmps134;go_wp2;refine Qw ?_;refine lQ ?_;go_big_quiet_want;refine⟨FN #[Z R (N xs) S,Z (O (aD wb P)) (N D) W,EP d,Z X (N dU) eQ,Z F4 (N JV) qZ,Z zZ (N tJ) mW,Z JW (N Hf) sQ],λx hx=>?_,?_⟩
    .have C:=cB (hx) q0;have e1:=cB (hx) q1;have e2:=cB (hx) q2;have e3:=cB (hx) q3;have e4:=cB (hx) q4;have e5:=cB (hx) q5;have e6:=cB (hx) q6;go_simp
    simp only[pU];go_big_quiet_on;refine qA4 ?_;go_big_quiet_want;refine⟨I J n,λx hx=>?_,?_⟩
    .have hC:=Qx hx (A.o x (aj b hx));go_simp
    simp only[pU];go_big_quiet_on;refine lQ ?_;refine XH ?_;intro w2 a;have k2:=aj b a;have L:=cB a d3;have av:IntKind.u64.wrap (n:Int)=n:=by rw[IntKind.wrap_u64];omega
    clear a;go_wp2;go_ret;exact⟨iU v.o.symm,k2⟩
   |false =>
    have f:=u.o right (by rw[Qu ⟨o2,rfl⟩];simp);have g:=f.1;have ax:=f.2;clear f u;obtain⟨K2,aa⟩:∃K,K=fD ts xs right:=⟨_,rfl⟩;rw[<-aa]at g ax B;clear aa;obtain⟨m,rfl⟩:∃n:Nat,K2=n:=⟨K2.toNat,by omega⟩;have lZ:=Zh g;clear g;have v:Wl (dN ts xs cs=max n m):=by show _=_;rw[B.o,QC (by simp)];rfl
    clear B;have av:IntKind.u64.wrap (n:Int)=n:=by rw[IntKind.wrap_u64];omega
    have aB:IntKind.u64.wrap (m:Int)=m:=by rw[IntKind.wrap_u64];omega
    by_cases aC:n<m
    .go_enter Tryz.func134,Tryz.ntmps134;go_wp2;refine Qw ?_;refine lQ ?_;go_big_quiet_want;refine⟨FN #[Z R (N xs) S,Z (O (aD wb P)) (N D) W,EP d,Z X (N dU) eQ,Z F4 (N JV) qZ,Z zZ (N tJ) mW,Z JW (N Hf) sQ],λx hx=>?_,?_⟩
     .have C:=cB (hx) q0;have e1:=cB (hx) q1;have e2:=cB (hx) q2;have e3:=cB (hx) q3;have e4:=cB (hx) q4;have e5:=cB (hx) q5;have e6:=cB (hx) q6;go_simp
     simp only[pU];go_big_quiet_on;refine qA4 ?_;go_big_quiet_want;refine⟨I J n,λx hx=>?_,?_⟩
     .have hC:=Qx hx (A.o x (aj b hx));go_simp
     simp only[pU];go_big_quiet_on;refine lQ ?_;refine XH ?_;intro w2 a;have k2:=aj b a;have L:=cB a d3;go_wp2;refine Qw ?_;refine lQ ?_;go_big_quiet_want;refine⟨FN #[Z R (N xs) S,Z (O (aD wb P)) (N D) W,EP d,Z X (N dU) eQ,Z F4 (N JV) qZ,Z zZ (N tJ) mW,Z JW (N Hf) sQ],λx hx=>?_,?_⟩
     .have C:=cB (aj a hx) q0;have e1:=cB (aj a hx) q1;have e2:=cB (aj a hx) q2;have e3:=cB (aj a hx) q3;have e4:=cB (aj a hx) q4;have e5:=cB (aj a hx) q5;have e6:=cB (aj a hx) q6;go_simp
     simp only[pU];go_big_quiet_on;refine qA3 ?_;go_big_quiet_want;refine⟨I J right,λx hx=>?_,?_⟩
     .have C:=cB (aj a hx) d4;go_simp
     simp only[pU];go_big_quiet_on;go_big_quiet_want;refine⟨I J m,λx hx=>?_,?_⟩
     .have hC:=Qx hx (lZ.o x (aj k2 hx));go_simp
     simp only[pU];go_big_quiet_on;refine lQ ?_;refine XH ?_;intro w3 p;have k3:=aj k2 p;clear a p k2;go_wp2;go_ret;exact⟨iU (by rw[v.o];omega),k3⟩
    .go_enter Tryz.func134,Tryz.ntmps134;go_wp2;refine Qw ?_;refine lQ ?_;go_big_quiet_want;refine⟨FN #[Z R (N xs) S,Z (O (aD wb P)) (N D) W,EP d,Z X (N dU) eQ,Z F4 (N JV) qZ,Z zZ (N tJ) mW,Z JW (N Hf) sQ],λx hx=>?_,?_⟩
     .have C:=cB (hx) q0;have e1:=cB (hx) q1;have e2:=cB (hx) q2;have e3:=cB (hx) q3;have e4:=cB (hx) q4;have e5:=cB (hx) q5;have e6:=cB (hx) q6;go_simp
     simp only[pU];go_big_quiet_on;refine qA4 ?_;go_big_quiet_want;refine⟨I J n,λx hx=>?_,?_⟩
     .have hC:=Qx hx (A.o x (aj b hx));go_simp
     simp only[pU];go_big_quiet_on;refine lQ ?_;refine XH ?_;intro w2 a;have k2:=aj b a;have L:=cB a d3;go_wp2;refine Qw ?_;refine lQ ?_;go_big_quiet_want;refine⟨FN #[Z R (N xs) S,Z (O (aD wb P)) (N D) W,EP d,Z X (N dU) eQ,Z F4 (N JV) qZ,Z zZ (N tJ) mW,Z JW (N Hf) sQ],λx hx=>?_,?_⟩
     .have C:=cB (aj a hx) q0;have e1:=cB (aj a hx) q1;have e2:=cB (aj a hx) q2;have e3:=cB (aj a hx) q3;have e4:=cB (aj a hx) q4;have e5:=cB (aj a hx) q5;have e6:=cB (aj a hx) q6;go_simp
     simp only[pU];go_big_quiet_on;refine qA3 ?_;go_big_quiet_want;refine⟨I J right,λx hx=>?_,?_⟩
     .have C:=cB (aj a hx) d4;go_simp
     simp only[pU];go_big_quiet_on;go_big_quiet_want;refine⟨I J m,λx hx=>?_,?_⟩
     .have hC:=Qx hx (lZ.o x (aj k2 hx));go_simp
     simp only[pU];go_big_quiet_on;refine lQ ?_;refine XH ?_;intro w3 p;have k3:=aj k2 p;clear a p k2;go_wp2;go_ret;exact⟨iU (by rw[v.o];omega),k3⟩
 .have z:Wl (dN ts xs cs=2):=by show _=_;unfold dN;rw[Qu (.inl i)]
  have b1:((N cs:Int) != 1)=true:=by simp;omega
  clear j r;generalize N cs=cn at*;go_enter Tryz.func134,Tryz.ntmps134;go_wp2;go_ret;exact⟨by rw[z.o];rfl,b⟩
theorem jR(h:w.ownsRow base e 1 v n (xs.map (Value.int J)))(hl:N xs<=1152921504606846976):∃d cap,v=Z d (N xs) cap/\aA w d xs:=by
 have f:N xs=n:=by have:=h.1;simpa using this
 rcases h.2 with⟨rfl,h0⟩|⟨g,cap,cur,rfl,_,hh,_,_,_,ht⟩
 .have:xs=[]:=QF (by omega);subst this;exact⟨none,0,rfl,⟨by simp,λi b=>absurd b (by simp)⟩⟩
 .refine⟨O (aD g 0),cap,by rw[<-f],⟨hl,λi b=>⟨g,0,rfl,?_⟩⟩⟩;have a:(cur.toList.take (n*1))[i]? = O (I J (E xs i 0)):=by grind
  rw[List.getElem?_take_of_lt (by omega)]at a;rw[Q5];simp only[World.cell?,hh];simpa using a
def z8(hk:k<N cs):aG (cs.take (k+1))=aG (cs.take k)++aL (E cs k cz):=by
 have e:E cs k cz=cs[k]:=by simp[List.getD,hk]
 rw[Qh hk,e];unfold aG;rw[Q7];simp
def BZ(c:aF):N (aL c)<=2:=by unfold aL;split <;> simp
def vY:∀(cs:List aF),N (aG cs)<=2*N cs
 |[]=>by simp[aG]
 |c::cs=>by have h:=vY cs;have h2:=BZ c;unfold aG at*;rw[QH,QI,QJ];omega
def abL{w w':U}{base:Nat}{e:TypeId}{sz:Nat}{v:Value}{n:Nat}{xs:List Value}(h:w.ownsRow base e sz v n xs)(hb:Bw w w'):w'.ownsRow base e sz v n xs:=Xw h (Qs _) (λj _ a=>hb.block j a)
def Rl(ca:Option Addr)(cc:Nat)(cs:List aF)(w:U)(hx:bS w ca cs)(h3:N cs<=100) :
  Calls V 171 #[FN #[Z ca (N cs) cc]] w λe w'=>∃v,e=FR v/\w'.ownsRow (M (H w)) 3 1 v (N (aG cs)) ((aG cs).map (Value.int J))/\Bw w w':=by
 obtain⟨r,j⟩:∃x,x=w.alloc (FL #[Z ca (N cs) cc] 88):=⟨_,rfl⟩;have g:Bw w r:=by rw[j];exact bJ _ _
 have fV:GB r (M (H w)) 88 #[Z ca (N cs) cc]:=by rw[j];exact iX _ _
 have q0:=fV.at 0;have D:M (H r)=M (H w)+1:=by rw[j];simp
 have aa:=Zh D;have uE:=j.symm;clear j fV D;go_enter Tryz.func171,Tryz.ntmps171;go_wp2;clear uE;go_loopw [3,4] (λv iv wr=>∃k:Nat,k<=N cs/\iv=I J k/\Wl (wr.ownsRow (M (H r)) 3 1 v (N (aG (cs.take k))) ((aG (cs.take k)).map (Value.int J)))/\Bw r wr) (λ_ iv _=>N cs-(intOf iv).toNat)
 case atStart=>exact⟨0,Q4 _,rfl,Xl _ _ _ _,Qr _ _⟩
 case round=>
  obtain⟨k,hk,rfl,t,d⟩:=hrel;have hq:=cB d q0;by_cases m:k<N cs
  .obtain⟨b,off,rfl,c0,c1,c2,c3,c4⟩:=hx.2 k m;have k1:=aj g d;obtain⟨d1,d2,d3⟩:=J3 k1 c1 c2 c3;clear c0 c1 c2 c3;have n:N (aG (cs.take k))<=200:=by have:=vY (cs.take k);rw[XK]at this;omega
   have X:=Zh (z8 m);obtain⟨ra,rm,rc,rfl⟩:=Xg t.o;obtain⟨v',L,A,B,u,⟨P,Q,R,rfl⟩,-⟩:=iA wr (M (H r)) (Z ra rm rc) (aG (cs.take k)) t.o (by omega) d.size (E cs k cz).left 23;have a:=d.trans (u.below d.size (λb hb e=>by have:=(Xf t.o e).1;omega));have ag:=cB a q0;have e1:=cB (aj g a) (show Am w (aD b (off+k*5+1))=_ from (hx.2 k m).elim λb' h=>h.elim λo' h=>by obtain⟨he,_,h1,_⟩:=h;cases he;exact h1);have e3:=cB (aj g a) (show Am w (aD b (off+k*5+3))=_ from (hx.2 k m).elim λb' h=>h.elim λo' h=>by obtain⟨he,_,_,_,h1,_⟩:=h;cases he;exact h1);have e4:=cB (aj g a) c4;have ae:=hx.1;clear hx c4;generalize E cs k cz=c at*;obtain⟨ah,S,left,f,right⟩:=c;simp only at*;by_cases z:S≠2/\f=F
   .obtain⟨C,rfl⟩:=z;have b2:(S != 2)=true:=by simp[C]
    have i:aG (cs.take (k+1))=aG (cs.take k)++[left]++[right]:=by rw[X.o];unfold aL;rw[Qu ⟨C,rfl⟩];simp
    have p:=a.size;obtain⟨v',w6,W,y,vZ,⟨ua,um,uc,rfl⟩,-⟩:=iA L (M (H r)) (Z P Q R) (aG (cs.take k)++[left]) B (by rw[QI];simp;omega) p right 23;have G:=a.trans (vZ.below p (λb hb e=>by have:=(Xf B e).1;omega));rw[<-i]at y;have l:Wl _:=y;have sN:=Zh G;clear y G vZ B u a i p t n d k1 X;go_wp2_with (first|(at_builtin;refine Xy rfl (.tmp 12) (.tmp 19) 23 rfl (Z ra rm rc) (Z (O (aD (M (H wr)) 0)) 1 1) (Z P Q R) L rfl rfl A ?_)|(at_builtin;refine Xy rfl (.tmp 37) (.tmp 44) 23 rfl (Z P Q R) (Z (O (aD (M (H L)) 0)) 1 1) (Z ua um uc) w6 rfl rfl W ?_));clear A W;go_wp2;go_roundw
    case rel=>exact⟨k+1,by omega,by go_num,l.o,sN.o⟩
    case measure=>simp[intOf];omega
   .have i:aG (cs.take (k+1))=aG (cs.take k)++[left]:=by rw[X.o];unfold aL;rw[QC z]
    rw[<-i]at B;have l:Wl _:=B;have sN:=Zh a;clear B u a i t n d k1 X;by_cases C:S=2
    .have b2:(S != 2)=false:=by simp[C]
     go_wp2_with (first|(at_builtin;refine Xy rfl (.tmp 12) (.tmp 19) 23 rfl (Z ra rm rc) (Z (O (aD (M (H wr)) 0)) 1 1) (Z P Q R) L rfl rfl A ?_));clear A;go_wp2;go_roundw
     case rel=>exact⟨k+1,by omega,by go_num,l.o,sN.o⟩
     case measure=>simp[intOf];omega
    .have b2:(S != 2)=true:=by simp[C]
     have K:f=true:=by
      cases f with
      |true=>rfl
      |false=>exact absurd ⟨C,rfl⟩ z
     subst K;go_wp2_with (first|(at_builtin;refine Xy rfl (.tmp 12) (.tmp 19) 23 rfl (Z ra rm rc) (Z (O (aD (M (H wr)) 0)) 1 1) (Z P Q R) L rfl rfl A ?_));clear A;go_wp2;go_roundw
     case rel=>exact⟨k+1,by omega,by go_num,l.o,sN.o⟩
     case measure=>simp[intOf];omega
  .have e:k=N cs:=by omega
   have q:=t.o;rw[e,Zb]at q;have af:Wl _:=q;have ae:=hx.1;clear e t q hx;go_wp2;go_ret;exact⟨_,rfl,Xw af.o (by have:=aa.o;omega) (λ_ _ _=>rfl),aj g d⟩
def XJ:=@abL
def Vf(l m:List Int)(x:Int):aC l (m++[x])=if x∈aC l m then aC l m else aC l m++[x]:=by unfold aC;rw[Zv];rfl
def Vg{l m:List Int}(hk:k<N m):aC l (m.take (k+1))=if m.getD k 0∈aC l (m.take k) then aC l (m.take k) else aC l (m.take k)++[E m k 0]:=by
 have e:E m k 0=m[k]:=by simp[List.getD,hk]
 rw[Qh hk,Vf,e]
def abN(W:U)(base:Nat)(v:Value)(ys:List Int)(hown:W.ownsRow base 3 1 v (N ys) (ys.map (Value.int J)))(ao:Option Addr)(cap:Nat)(xs:List Int)(hx:aA W ao xs)(hn:ao=none->cap=0)(hl:N ys+N xs<=1000000)(hb:base<=M (H W))(ty:TypeId) :
  ∃f g,(Builtin.append_ #[23,23] ty #[v,Z ao (N xs) cap]).run V W=.ok f g/\
   g.ownsRow base 3 1 f (N (ys++xs)) ((ys++xs).map (Value.int J))/\Kept (λb=>v.ownBlock≠O b) W g/\(∃a m c,f = Z a m c):=by
 obtain⟨t,y,l,n,p⟩:=Xk Tryz.tH
 cases ao with
 |none =>
  obtain rfl:cap=0:=hn rfl;have A:xs=[]:=by
   cases xs with
   |nil=>rfl
   |cons x xs=>obtain⟨b,off,e,_⟩:=hx.2 0 (by simp);cases e
  subst A;refine⟨v,W,run_append_owned_none (P:=V) (w:=W) base 23 ty 3 t 1 Tryz.underlying23 y v (N ys) _ hown,by rw[QN];exact hown,Zx _ _,Xg hown⟩
 |some a =>
  have d:∀j u,(xs.map (Value.int J))[j]? = O u->W.cell? (a.add j)=O u:=λj u i=>by
   rw[QK]at i;by_cases k:j<N xs
   .obtain⟨b,off,e,B⟩:=hx.2 j k
    cases e;rw[iw,B];simp[List.getD,k]at i ⊢;exact i
   .rw[List.getElem?_eq_none (by omega)]at i;cases i
  obtain⟨f,g,q,z,C,_,_⟩:=Xz (P:=V) W base 23 ty 3 t (.int J 0) 1 8 Tryz.underlying23 y l n p rfl (by decide) v (N ys) (ys.map (Value.int J)) hown a (N xs) cap (xs.map (Value.int J)) (by simp) d
   (λu D=>by obtain⟨x,_,rfl⟩:=Zi.1 D;rfl) (by unfold maxLen;omega) (by omega) hb
  exact⟨f,g,q,by rw[QI,Ql];exact z,Xd C (λr e q=>q e),Xg z⟩
def Hg(ao bo:Option Addr)(cap cap':Nat)(xs ys:List Int)(w:U)(hx:aA w ao xs)(hy:aA w bo ys)(hn:ao=none->cap=0)(hl:N xs+N ys<=1000) :
  Calls V 74 #[Z ao (N xs) cap,Z bo (N ys) cap'] w λe w'=>∃v,e=FR v/\w'.ownsRow (M (H w)) 3 1 v (N (aC xs ys)) ((aC xs ys).map (Value.int J))/\Bw w w':=by
 obtain⟨v0,w1,p,i,q,⟨va,vm,vc,rfl⟩⟩:=abN w (M (H w)) (Z none 0 0) [] (Xl _ _ _ _) ao cap xs hx hn (by simp;omega) (Qs _) 23;rw[ZU]at i;have z:=q.below (Qs _) (λb hb e=>by cases e);clear q;have A:Wl _:=i;clear i;go_enter Tryz.func74,Tryz.ntmps74;go_wp2_with (first|(at_builtin;refine Xy rfl (.tmp 8) (.tmp 9) 23 rfl (Z none 0 0) (Z ao (N xs) cap) (Z va vm vc) w1 rfl rfl p ?_));clear p;go_wp2;go_loopw [5,6] (λv P wr=>∃k:Nat,k<=N ys/\P=I J k/\Wl (wr.ownsRow (M (H w)) 3 1 v (N (aC xs (ys.take k))) ((aC xs (ys.take k)).map (Value.int J)))/\Bw w wr) (λ_ P _=>N ys-(intOf P).toNat)
 case atStart=>exact⟨0,Q4 _,rfl,A.o,z⟩
 case round=>
  obtain⟨k,hk,rfl,f,a⟩:=hrel;have aa:=hy.1;by_cases j:k<N ys
  .obtain⟨b,off,rfl,R⟩:=hy.get j;have ae:=cB a (R k j);clear R;have u:=Zh (Vg (l:=xs) j);have B:N (aC xs (ys.take k))<=1000:=by have:=lW (m:=ys.take k) (l:=xs);rw[XK]at this;omega
   clear hy;obtain⟨L,S⟩:=eY (aC xs (ys.take k));rw[<-S]at u f B;clear S;generalize E ys k 0=y at*;obtain⟨D,G,rfl,r⟩:=jR f.o (by omega);have Q:=oD D G L y wr r;clear r;go_wp2_with fail;refine Q.mono ?_;clear Q;rintro e W ⟨rfl,rfl⟩;by_cases d:y∈L
   .rw[QD d];go_wp2;go_roundw
    case rel=>exact⟨k+1,by omega,by go_num,by have e:=u.o;rw[Qu d]at e;rw[e];exact f.o,a⟩
    case measure=>simp[intOf];omega
   .rw[QX d];obtain⟨v',w5,X,K,t,⟨ua,um,uc,rfl⟩,-⟩:=iA W (M (H w)) (Z D (N L) G) L f.o (by omega) a.size y 23;have n:=a.trans (t.below a.size (λb hb e=>by have:=(Xf f.o e).1;omega));have e:=u.o;rw[QC d]at e;rw[<-e]at K;have zJ:Wl _:=K;have jS:=Zh n;clear e K n t f u;go_wp2_with (first|(at_builtin;refine Xy rfl (.tmp 25) (.tmp 30) 23 rfl (Z D (N L) G) (Z (O (aD (M (H W)) 0)) 1 1) (Z ua um uc) w5 rfl rfl X ?_));clear X;go_wp2;go_roundw
    case rel=>exact⟨k+1,by omega,by go_num,zJ.o,jS.o⟩
    case measure=>simp[intOf];omega
  .have e:k=N ys:=by omega
   have g:=f.o;rw[e,Zb]at g;have C:Wl _:=g;clear e f g hy hx;go_wp2;go_ret;exact⟨_,rfl,C.o,a⟩
def uy{p:Int->Bool}(hk:k<N xs)(h:(xs.take k).all p=T)(hp:p (E xs k 0)=T):(xs.take (k+1)).all p=true:=by
 have e:E xs k 0=xs[k]:=by simp[List.getD,hk]
 rw[e]at hp;rw[Qh hk,List.all_append,h,List.all_cons,hp];rfl
def IK{p:Int->Bool}(hk:k<N xs)(hp:p (E xs k 0)=F):xs.all p=false:=by
 have e:E xs k 0=xs[k]:=by simp[List.getD,hk]
 rw[X5];exact⟨xs[k],Qi hk,by rw[<-e,hp];simp⟩
def IM(hk:k<N xs):E xs k 0∈xs:=by
 have e:E xs k 0=xs[k]:=by simp[List.getD,hk]
 rw[e];exact Qi hk
def Wy(ao so:Option Addr)(cap E9:Nat)(ts:List ag)(q:af)(k:Nat)(ss:List Int)(w:U)(hx:aN w ao ts)(hc:dL ts=T)(hq:q.At w)(h5:N q.src.xs<=5)(ha:aM q.src.xs (N ts)=T)(hk:k<N q.wh)
  (fJ:∀c∈aG (E q.wh k lz).cs,0<=c/\c<ak ts q.src.xs) (h3:(E q.wh k lz).cs.length<=3) (hss:aA w so ss) :
  Cb 137 #[Z ao (N ts) cap,FN q.cells,I J k,Z so (N ss) E9] w (EP (lV ts q.src.xs (E q.wh k lz).cs ss)):=by
 have G:Wl (∀c∈aG (E q.wh k lz).cs,∀x,Bw w x->Cb 82 #[Z ao (N ts) cap,FN q.cells,I J c] x (I J (au ts q.src.xs c:Nat))):=λc hm x hb=>
  rW ao cap ts q c x (hx.below hb) hc (Qt hb hq.src) h5 ha (fJ c hm).1 (fJ c hm).2
 have aC:=hq.wh.1;obtain⟨wb,wo,Ve,y⟩:=Qf hq.wh.2.1 hk;have d:=y k hk;have m:=hq.wh.2.2 k hk;clear y hq fJ hc ha hx;obtain⟨w1,g⟩:∃x,x=w.alloc (FL q.cells 26):=⟨_,rfl⟩;have f:Bw w w1:=by rw[g];exact bJ _ _
 have fV:GB w1 (M (H w)) 26 q.cells:=by rw[g];exact iX _ _
 obtain⟨⟨ni,dV,xs⟩,dx,aP,wh,t,⟨nU,eQ,dU⟩,⟨F4,qZ,JV⟩,⟨zZ,mW,tJ⟩,⟨JW,sQ,Hf⟩⟩:=q;unfold af.cells ae.val at*;simp only at*;subst Ve;generalize E wh k lz=cl at*;obtain⟨ca,cc,cs⟩:=cl;unfold az.val at d;simp only at d m G h3 ⊢;obtain⟨q0,q1,q2,q3,q4,q5,q6⟩:=fV.k7;have uE:=g.symm;have K:=cB f d;have NF:=Rl ca cc cs w1 (m.below f) (by omega);have P:Wl _:=hss;have Q:Wl (lV ts xs cs ss=(aG cs).all λc=>decide ((au ts xs c:Int)∈ss)):=rfl;have F9:=vY cs;clear g fV d m hss;go_enter Tryz.func137,Tryz.ntmps137;go_wp2_with fail;refine NF.mono ?_;clear NF uE;rintro e w2 ⟨v,rfl,z,j⟩;obtain⟨la,lc,rfl,A⟩:=jR z (by omega);have n:Wl _:=A;clear z A K;obtain⟨L,hL⟩:=eY (aG cs);rw[<-hL]at G n Q F9 ⊢;clear hL;have k2:=aj f j;obtain⟨aa,ah,ai,av,ax⟩:=ji j q0 q1 q2 q3 q4;obtain⟨ay,aB⟩:=gy j q5 q6;clear q0 q1 q2 q3 q4 q5 q6 j f;go_wp2;go_loopw [10] (λiv wr=>∃i:Nat,i<=N L/\iv=I J i/\Wl (((L.take i).all λc=>decide ((au ts xs c:Int)∈ss))=T)/\Bw w2 wr) (λiv _=>N L-(intOf iv).toNat)
 case atStart=>exact⟨0,Q4 _,rfl,rfl,Qr _ _⟩
 case round=>
  obtain⟨i,hi,rfl,D,a⟩:=hrel;by_cases b:i<N L
  .have PX:=n.o.1;obtain⟨lb,lo,rfl,B⟩:=Qg n.o b;have R:=cB a (B i b);clear B;have HC:=G.o (E L i 0) (IM b);have W:=Zh HC;clear HC;have C:=aj k2 a;obtain⟨HT,HF⟩:=aV (uy (p:=λc=>decide ((au ts xs c:Int)∈ss)) b D.o) (IK (p:=λc=>decide ((au ts xs c:Int)∈ss)) b);clear D;generalize E L i 0=c at*;obtain⟨S,hS⟩:=eY (au ts xs c)
   simp only[<-hS]at W HT HF;clear hS;go_wp2;refine Qw ?_;refine lQ ?_;go_big_quiet_want;refine⟨FN #[Z ni (N xs) dV,Z (O (aD wb wo)) (N wh) aP,EP t,Z nU (N dU) eQ,Z F4 (N JV) qZ,Z zZ (N tJ) mW,Z JW (N Hf) sQ],λx hx=>?_,?_⟩
   .have e0:=cB (aj a hx) aa;have e1:=cB (aj a hx) ah;have e2:=cB (aj a hx) ai;have e3:=cB (aj a hx) av;have e4:=cB (aj a hx) ax;have e5:=cB (aj a hx) ay;have e6:=cB (aj a hx) aB;go_simp
   simp only[pU];go_big_quiet_on;refine qA4 ?_;go_big_quiet_want;refine⟨I J S,λx hx=>?_,?_⟩
   .have hC:=Qx hx (W.o x (aj C hx));go_simp
   simp only[pU];go_big_quiet_on;refine lQ ?_;refine XH ?_;intro w3 u;have Uz:=aj a u;have k3:=aj C u;clear u W R;have FJ:=oD so E9 ss (S:Int) w3 (Qt k3 P.o);go_wp2_with fail;refine FJ.mono ?_;clear FJ;rintro e w4 ⟨rfl,rfl⟩;by_cases l:(S:Int)∈ss
   .rw[QD l];go_wp2;go_roundw
    case rel=>exact⟨i+1,by omega,by go_num,HT.o (QD l),Uz⟩
    case measure=>simp[intOf];omega
   .rw[QX l];go_wp2;go_ret;exact⟨Qd (by rw[Q.o];exact(HF.o (QX l)).symm),k3⟩
  .have e:i=N L:=by omega
   have r:=D.o;rw[e,Zb]at r;have X:=Zh r;have C:=aj k2 a;clear D r e;go_wp2;go_ret;exact⟨Qd (by rw[Q.o];exact X.o.symm),C⟩
def agF(hc:dL ts=T)(hi:i<N ts):0<=(E ts i tz).rows/\(E ts i tz).rows<=1000000:=by have a:=yh hc hi;unfold dJ at a;rw[Qz]at a;exact⟨a.2.2.1,a.2.2.2.1⟩
def acL(h:aN w ao ts)(hi:i<N ts):∃b off,ao=O (aD b off)/\Am w (aD b (off+i*6+1))=O (I J (E ts i tz).rows):=by obtain⟨b,off,e,_,a,_⟩:=h.2 i hi;exact⟨b,off,e,a⟩
def ajB{ni:Option Addr}(hx:aN w ao ts)(hs:aA w ni xs)(hc:dL ts=T)(ha:aM xs (N ts)=T){s:Int}(h0:0<=s)(h1:s<N xs) :
  ∃(f g j a sn tn R:Nat),ni=O (aD f g)/\ao=O (aD j a)/\s=(sn:Int)/\Am w (aD f (g+sn))=O (I J (tn:Int))/\Am w (aD j (a+tn*6+1))=O (I J (R:Int))/\iO ts xs s=R/\sn<N xs/\tn<N ts/\R<=1000000:=by
 have b:s.toNat<N xs:=by omega
 obtain⟨f,g,n,k⟩:=hs.get b;have m:=Qo ha b;have d:E xs s.toNat 0=xs[s.toNat]:=by simp[List.getD,b]
 have e:=k _ b;rw[d]at e;obtain⟨j,a,p,l⟩:=acL hx (i:=(xs[s.toNat]).toNat) (by omega);have q:=agF hc (i:=(xs[s.toNat]).toNat) (by omega);refine⟨f,g,j,a,s.toNat,(xs[s.toNat]).toNat,(E ts (xs[s.toNat]).toNat tz).rows.toNat,n,p,by omega,?_,?_,?_,b,by omega,by omega⟩
 .rw[e];congr 2;omega
 .rw[l];congr 2;omega
 .unfold iO;rw[d]
def FW{β:Type}{f:β->Nat->β}{g:Int->Nat}(hk:k<N xs)(b:β):((xs.take (k+1)).map g).foldl f b=f (((xs.take k).map g).foldl f b) (g (E xs k 0)):=by
 have e:E xs k 0=xs[k]:=by simp[List.getD,hk]
 rw[Qh hk,e,Ql,Zv];rfl
def lH:∀(l:List Nat) (m:Nat),m<=aU->l.foldl aQ m<=aU
 |[],_,h=>h
 |a::l,m,_=>lH l _ (lU m a)
def qM(ts:List ag)(q:af)(clauses:List Int)(k n:Nat):Nat:=(List.range k).foldl (λ(n c:Nat)=>if (c:Int)∈clauses then n / dN ts q.src.xs (E q.wh c lz).cs else n) n
def Fa(ts:List ag)(q:af)(clauses:List Int)(k n:Nat):qM ts q clauses (k+1) n=if (k:Int)∈clauses then qM ts q clauses k n / dN ts q.src.xs (E q.wh k lz).cs else qM ts q clauses k n:=by unfold qM;rw[QT,Zv];rfl
def Ec(ts:List ag)(q:af)(clauses:List Int)(n:Nat):∀k,qM ts q clauses k n<=n
 |0=>Qs _
 |k+1=>by
  rw[Fa];have:=Ec ts q clauses n k;split
  .exact Q6 (Nat.div_le_self _ _) this
  .exact this
theorem Tm(hc:dL ts=T)(ha:aM src (N ts)=T)(fJ:∀c∈aG cs,0<=c/\c<ak ts src):1<=dN ts src cs/\dN ts src cs<=1000000:=by
 unfold dN;split
 .omega
 rename_i h1;split
 .omega
 split
 .omega
 rename_i o2;have e:N cs=1:=by omega
 have a:∀x∈aL (E cs 0 cz),x∈aG cs:=by
  match cs,e with
  |[c],_=>intro x f;simpa [aG] using f
 have b:=fJ (E cs 0 cz).left (a _ (by unfold aL;split <;> simp));have g:=yj hc ha b.1 b.2;split
 .omega
 .rename_i hcn
  have d:=fJ (E cs 0 cz).right (a _ (by unfold aL;grind));have i:=yj hc ha d.1 d.2;omega
def Tn(ao so' co:Option Addr)(cap E9 dK:Nat)(ts:List ag)(q:af)(ss cl:List Int)(w:U)(hx:aN w ao ts)(hc:dL ts=T)(hq:q.At w)(h5:N q.src.xs<=5)(ha:aM q.src.xs (N ts)=T)(h8:N q.wh<=8)
  (fJ:ze ts q) (hss:aA w so' ss) (hsm:bM (N q.src.xs) ss) (hcl:aA w co cl) :
  Cb 71 #[Z ao (N ts) cap,FN q.cells,Z so' (N ss) E9,Z co (N cl) dK] w (I Dc (iK ts q ss cl:Nat)):=by
 have F8:Wl (∀k:Nat,k<N q.wh->(∀x,Bw w x->Cb 134 #[Z ao (N ts) cap,FN q.cells,I J k] x (I Dc (dN ts q.src.xs (E q.wh k lz).cs:Nat)))/\1<=dN ts q.src.xs (E q.wh k lz).cs/\dN ts q.src.xs (E q.wh k lz).cs<=1000000):=λk hk=>
  ⟨λx hb=>abJ ao cap ts q k x (hx.below hb) hc (hq.below hb) h5 ha hk (fJ k hk),Tm hc ha (fJ k hk)⟩
 have HR:Wl (∀i,i<N ss->∃(sb so tb B sn tn R:Nat),q.src.ad=O (aD sb so)/\ao=O (aD tb B)/\E ss i 0=(sn:Int)/\Am w (aD sb (so+sn))=O (I J (tn:Int))/\Am w (aD tb (B+tn*6+1))=O (I J (R:Int))/\iO ts q.src.xs (E ss i 0)=R/\sn<N q.src.xs/\tn<N ts/\R<=1000000):=λi hi=>by have:=hsm _ (IM hi);exact ajB hx hq.src hc ha this.1 this.2
 have Gd:Wl (iK ts q ss cl=if (ss.any λs=>decide (iO ts q.src.xs s=0))=T then 0 else max (qM ts q cl (N q.wh) ((ss.map (iO ts q.src.xs)).foldl aQ 1)) 1):=rfl;have aT:=hss.1;have aa:Wl (∀k n,qM ts q cl (k+1) n=if (k:Int)∈cl then qM ts q cl k n / dN ts q.src.xs (E q.wh k lz).cs else qM ts q cl k n):=λk n=>Fa ts q cl k n;have az:Wl (∀k n,qM ts q cl k n<=n):=λk n=>Ec ts q cl n k;have aB:Wl (∀n,qM ts q cl 0 n=n):=λn=>rfl;generalize qM ts q cl=lt at*;obtain⟨pn,av⟩:∃pn:Nat->Nat,∀k,pn k=dN ts q.src.xs (E q.wh k lz).cs:=⟨_,λ_=>rfl⟩;simp only[<-av]at F8 aa;clear av;obtain⟨D,ax⟩:=eY (iO ts q.src.xs);rw[<-ax]at HR Gd;clear ax;obtain⟨Zq,hZ⟩:=eY (iK ts q ss cl);rw[<-hZ]at Gd ⊢;clear hZ;have sO:Wl _:=hcl;have ah:Wl _:=hss;clear fJ hc ha hx hq hsm hcl hss;obtain⟨w1,A⟩:∃x,x=w.alloc (FL q.cells 26):=⟨_,rfl⟩;have aC:Bw w w1:=by rw[A];exact bJ _ _
 have fV:GB w1 (M (H w)) 26 q.cells:=by rw[A];exact iX _ _
 obtain⟨⟨ni,dV,xs⟩,dx,aP,wh,aI,⟨nU,eQ,dU⟩,⟨F4,qZ,JV⟩,⟨zZ,mW,tJ⟩,⟨JW,sQ,Hf⟩⟩:=q;unfold af.cells ae.val at*;simp only at*;obtain⟨q0,q1,q2,q3,q4,q5,q6⟩:=fV.k7;have uE:=A.symm;have rH:=Zh aC;clear A fV;go_enter Tryz.func71,Tryz.ntmps71;go_wp2;clear uE;go_loopw [10] (λy wr=>∃i:Nat,i<=N ss/\y=I J i/\Wl (((ss.take i).all λs=>decide (D s≠0))=T)/\Bw w1 wr) (λy _=>N ss-(intOf y).toNat)
 case atStart=>exact⟨0,Q4 _,rfl,rfl,Qr _ _⟩
 case round=>
  obtain⟨i,hi,rfl,HA,b⟩:=hrel;by_cases d:i<N ss
  .obtain⟨sb,so,tb,B,sn,tn,R,rfl,rfl,t,c1,c2,l,b1,b2,b3⟩:=HR.o i d;obtain⟨ib,io,rfl,u⟩:=Qg ah.o d;have r:=aj rH.o b;have G:=cB r (u i d);rw[t]at G;obtain⟨d1,d2⟩:=gy r c1 c2;have X:=Zh (uy (p:=λs=>decide (D s≠0)) d HA.o);rw[l]at X;have HB:Wl (R=0->Zq=0):=λe=>by rw[Gd.o,Qu];rw[List.any_eq_true];exact⟨_,IM d,by rw[l,e];rfl⟩
   have K:=cB b q0;clear t c1 c2 l u HA;by_cases ay:R=0
   .subst ay;go_wp2;go_quiet (fail);go_wp2;go_ret;exact⟨iU (a:=0) (HB.o (by trivial)).symm,Qy (aj rH.o b) _⟩
   .have aV:((R:Int)==0)=false:=by simp;omega
    go_wp2;go_quiet (fail);go_wp2;go_roundw
    case rel=>exact⟨i+1,by omega,by go_num,X.o (QD ay),Qy b _⟩
    case measure=>simp[intOf];omega
  .have e:i=N ss:=by omega
   have L:=HA.o;rw[e,Zb]at L;have ai:Wl (Zq=max (lt (N wh) ((ss.map D).foldl aQ 1)) 1):=by show _=_;rw[Gd.o,QC];intro h;rw[List.any_eq_true]at h;obtain⟨s,hs,h1⟩:=h;have:=Qn.1 L s hs;exact Zn this (Zn h1)
   clear HA L e Gd;go_wp2;clear hi d;go_loopw [9,11] (λnv y wr=>∃i:Nat,i<=N ss/\y=I J i/\nv=I Dc (((ss.take i).map D).foldl aQ 1:Nat)/\Bw w1 wr) (λ_ y _=>N ss-(intOf y).toNat)
   case atStart=>exact⟨0,Q4 _,rfl,rfl,b⟩
   case round=>
    clear b;obtain⟨i,hi,rfl,rfl,b⟩:=hrel;have z:((ss.take i).map D).foldl aQ 1<=aU:=lH _ _ (by unfold aU;omega);by_cases d:i<N ss
    .obtain⟨sb,so,tb,B,sn,tn,R,rfl,rfl,t,c1,c2,l,b1,b2,b3⟩:=HR.o i d;obtain⟨ib,io,rfl,u⟩:=Qg ah.o d;have r:=aj rH.o b;have G:=cB r (u i d);rw[t]at G;obtain⟨d1,d2⟩:=gy r c1 c2;have X:=FW (f:=aQ) (g:=D) d 1;rw[l]at X;have aF:=Zh X;have K:=cB b q0;clear t c1 c2 l u X;generalize ((ss.take i).map D).foldl aQ 1=n at*;have aG:Wl (∀x,Cb 133 #[I Dc n,I Dc R] x (I Dc (aQ n R:Nat))):=λx=>(LJ n R z (by unfold aU;omega) x).mono (λ_ _ h=>⟨h.1,by rw[h.2];exact Qr _ _⟩)
     have aW:IntKind.u64.wrap (R:Int)=R:=by rw[IntKind.wrap_u64];omega
     clear z;go_wp2;refine Qw ?_;refine aio ?_;refine qA4 ?_;go_big_quiet_want;refine⟨I Dc (aQ n R:Nat),λx hx=>?_,?_⟩
     .have hC:=Qx hx (aG.o x);go_simp
     simp only[pU];go_big_quiet_on;refine lQ ?_;refine XH ?_;intro w3 v;have Uz:=aj b v;clear v;go_wp2;go_roundw
     case rel=>exact⟨i+1,by omega,by go_num,by rw[aF.o],Uz⟩
     case measure=>simp[intOf];omega
    .have e:i=N ss:=by omega
     rw[e,Zb]at z ⊢;clear e d hi;generalize (ss.map D).foldl aQ 1=Nq at*;unfold aU at z;have P:=cB b q1;have ak:=aB.o Nq;go_wp2;clear P;go_loopw [9,12] (λnv y wr=>∃i:Nat,i<=N wh/\y=I J i/\nv=I Dc (lt i Nq:Nat)/\Bw w1 wr) (λ_ y _=>N wh-(intOf y).toNat)
     case atStart=>exact⟨0,Q4 _,rfl,by rw[ak],b⟩
     case round=>
      clear b ak;obtain⟨i,hi,rfl,rfl,b⟩:=hrel;have P:=cB b q1;have aX:=az.o i Nq;by_cases d:i<N wh
      .have Q:=F8.o i d;have au:=Q.1;have aY:=Q.2;have S:=Zh au;have j:=aa.o i Nq;clear Q au;generalize pn i=p at*;generalize lt i Nq=n at*;have r:=aj rH.o b;have FJ:=oD co dK cl (i:Int) wr (Qt r sO.o);go_wp2_with fail;refine FJ.mono ?_;clear FJ;rintro e w2 ⟨rfl,rfl⟩;by_cases C:(i:Int)∈cl
       .rw[QD C];rw[Qu C]at j;have W:=Zh j;clear j;obtain⟨K,aJ,aK,aL,aO,aR⟩:=Dh b q0 q2 q3 q4 q5 q6;go_wp2_with fail;refine(show Calls _ _ _ _ _ from S.o w2 r).mono ?_;rintro e w3 ⟨rfl,v⟩;have Uz:=aj b v;clear K aJ aK aL aO aR P v S;have aZ:¬p=0:=by omega
        have bf:((n:Int)).tdiv (p:Int)=((n / p:Nat):Int):=by rw[Int.tdiv_eq_ediv_of_nonneg (by omega),Int.natCast_ediv]
        have aH:n / p<=18446744073709551615:=by have:=Nat.div_le_self n p;omega
        have bg:=vV aH;generalize n / p=m at*;go_wp2;go_roundw
        case rel=>exact⟨i+1,by omega,by go_num,by rw[W.o],Uz⟩
        case measure=>simp[intOf];omega
       .rw[QX C];rw[QC C]at j;have W:=Zh j;clear j S;go_wp2;go_roundw
        case rel=>exact⟨i+1,by omega,by go_num,by rw[W.o],b⟩
        case measure=>simp[intOf];omega
      .have e:i=N wh:=by omega
       have HZ:Wl (Zq=max (lt i Nq) 1):=by show _=_;rw[ai.o,e]
       clear e ai;generalize lt i Nq=n at*;have r:=aj rH.o b;by_cases aS:n=0
       .subst aS;go_wp2;go_ret;exact⟨iU (a:=1) (by rw[HZ.o];rfl),r⟩
       .have bn:((n:Int)==0)=false:=by simp;omega
        go_wp2;go_ret;exact⟨iU (by rw[HZ.o];omega),r⟩
theorem aA.take(h:aA w ao xs)(k:Nat):aA w ao (xs.take k):=by refine⟨by have:=h.1;rw[XK];omega,λi a=>?_⟩;rw[XK]at a;obtain⟨b,off,e,d⟩:=h.2 i (by omega);grind
theorem Rm{l:List Int}{k:Nat}(hk:k<N l)(h:E l k 0≠k):jI l=false:=by unfold jI;grind
theorem Rn{l:List Int}(h:∀i,i<N l->E l i 0=i):jI l=true:=by unfold jI;grind
theorem abO(ao:Option Addr)(cap:Nat)(xs:List Int)(v:Int)(w:U)(hx:aA w ao xs) :
  Calls V 167 #[Z ao (N xs) cap,I J v] w λe t=>∃r:Int,e=FR (I J r)/\Wl (0<=r↔v∈xs)/\t = w:=by
 have u:=hx.1;go_enter Tryz.func167,Tryz.ntmps167;go_wp2;go_loop [8] (λi=>∃k:Nat,k<=N xs/\i=I J k/\v ∉ xs.take k) (λi=>N xs-(intOf i).toNat)
 case atStart=>grind
 case round=>
  obtain⟨k,y,rfl,d⟩:=hrel;by_cases a:k<N xs
  .obtain⟨b,off,rfl,p⟩:=hx.get a;have q:=p k a;have m:=Zh (uq (v:=v) a);have g:Wl _:=d;have n:Wl (E xs k 0∈xs):=by grind
   clear p hx d;obtain⟨x,f⟩:=eY (E xs k 0);rw[<-f]at q m n;clear f;by_cases l:v=x
   .have j:(v==x)=true:=by simp[l]
    go_wp2;go_ret;exact⟨k,rfl,⟨λ_=>n.o,λ_=>by omega⟩,rfl⟩
   .have j:(v==x)=false:=by simp[l]
    go_wp2;go_round
    case rel=>exact⟨k+1,by omega,by go_num,λe=>by
     rcases m.o.1 e with e|e
     .exact g.o e
     .exact l e.symm⟩
    case measure=>simp[intOf];omega
  .have e:k=N xs:=by omega
   rw[e,Zb]at d;have g:Wl _:=d;clear d;go_wp2;go_ret;exact⟨-1,rfl,⟨λh=>absurd h (by omega),λh=>absurd h g.o⟩,rfl⟩
def Ca(ao:Option Addr)(cap:Nat)(xs:List Int)(v:Int)(w:U)(hx:aA w ao xs) :
  Ce 146 #[Z ao (N xs) cap,I J v] w (EP (decide (v∈xs))):=by have h:=abO ao cap xs v w hx;clear hx;go_enter Tryz.func146,Tryz.ntmps146;go_wp2_with fail;refine h.mono ?_;clear h;rintro e b ⟨r,rfl,a,rfl⟩;go_wp2;go_ret;exact⟨Qd (by rw[Zf,Qz,Qz];exact a.o),rfl⟩
def LM(ao bo:Option Addr)(cap cap':Nat)(xs ys:List Int)(w:U)(hx:aA w ao xs)(hy:aA w bo ys) :
  Cb 129 #[Z ao (N xs) cap,Z bo (N ys) cap'] w (EP (decide (xs=ys))):=by
 have A:=hy.1;by_cases a:N xs=N ys
 .have p:=Zh a;have q:((N xs:Int) != (N ys:Int))=false:=by rw[a];simp
  have B:N xs<=N ys:=by omega
  clear a;go_enter Tryz.func129,Tryz.ntmps129;go_wp2;go_loopw [13] (λi wr=>∃k:Nat,k<=N xs/\i=I J k/\Wl (xs.take k=ys.take k)/\∃n,wr=w.drewN n) (λi _=>N xs-(intOf i).toNat)
  case atStart=>exact⟨0,Q4 _,rfl,rfl,0,rfl⟩
  case round=>
   obtain⟨k,K,rfl,t,n,rfl⟩:=hrel;by_cases j:k<N xs
   .have d:k<N ys:=by omega
    obtain⟨b,off,rfl,u⟩:=hx.get j;obtain⟨b',Gi,rfl,l⟩:=hy.get d;have C:=u k j;have D:=l k d;clear u l hx hy;obtain⟨x,f⟩:=eY (E xs k 0);obtain⟨y,g⟩:=eY (E ys k 0);rw[<-f]at C;rw[<-g]at D;obtain⟨v,z⟩:=aV f g;clear f g;by_cases m:x=y
    .have r:(x != y)=false:=by simp[m]
     go_wp2;go_quiet (fail);go_wp2;go_roundw
     case rel=>exact⟨k+1,by omega,by go_num,BX j d t.o (by rw[<-v.o,<-z.o];exact m),_,rfl⟩
     case measure=>simp[intOf];omega
    .have r:(x != y)=true:=by simp[m]
     go_wp2;go_quiet (fail);go_wp2;go_ret;exact⟨Qd (QX (λe=>m (by rw[v.o,z.o,e]))).symm,Qy (Qy (Qr _ _) _) _⟩
   .have G:Wl (k=N xs):=by show _=_;omega
    go_wp2;go_ret;exact⟨Qd (by refine(QD ?_).symm;have:=t.o;rw[G.o,Zb,p.o,Zb]at this;exact this),Qy (Qr _ _) _⟩
 .have q:((N xs:Int) != (N ys:Int))=true:=by rw[bne_iff_ne];omega
  have p:Wl _:=a;clear a;go_enter Tryz.func129,Tryz.ntmps129;go_wp2;go_ret;exact⟨Qd (QX (λe=>p.o (by rw[e]))).symm,Qr _ _⟩
theorem wF(ao bo:Option Addr)(cap cap':Nat)(xs ys:List Int)(w:U)(hx:aA w ao xs)(hy:aA w bo ys)(hcap:N xs<=cap) :
  Cb 105 #[Z ao (N xs) cap,Z bo (N ys) cap'] w (EP (aY xs ys)):=by
 have f:=hy.1;by_cases a:N ys<=N xs
 .have b:Wl (aY xs ys=decide (xs.take (N ys)=ys)):=by show _=_;unfold aY;rw[QD a,QE]
  have d:=LM ao bo cap cap' (xs.take (N ys)) ys w (hx.take _) hy;rw[XK,Nat.min_eq_left a]at d;generalize aY xs ys=S at*;generalize decide (xs.take (N ys)=ys)=B at*;clear hx hy;go_enter Tryz.func105,Tryz.ntmps105;go_wp2_with fail;refine d.mono ?_;clear d;rintro e i ⟨rfl,g⟩;go_wp2;go_ret;exact⟨Qd b.o.symm,g⟩
 .have b:Wl (aY xs ys=F):=by show _=_;unfold aY;grind
  generalize aY xs ys=S at*;clear hx hy;go_enter Tryz.func105,Tryz.ntmps105;go_wp2;go_ret;exact⟨Qd b.o.symm,Qr _ _⟩
def NA(ao:Option Addr)(cap:Nat)(xs:List Int)(w:U)(hx:aA w ao xs) :
  Ce 111 #[Z ao (N xs) cap] w (EP (jI xs)):=by
 have v:=hx.1;have q:Wl _:=@Rm xs;have r:Wl _:=@Rn xs;generalize jI xs=C at*;go_enter Tryz.func111,Tryz.ntmps111;go_wp2;go_loop [7] (λi=>∃k:Nat,k<=N xs/\i=I J k/\Wl (∀j,j<k->E xs j 0=j)) (λi=>N xs-(intOf i).toNat)
 case atStart=>exact⟨0,Q4 _,rfl,λj p=>absurd p (by omega)⟩
 case round=>
  obtain⟨k,y,rfl,m⟩:=hrel;by_cases d:k<N xs
  .obtain⟨b,off,rfl,n⟩:=hx.get d;have t:=n k d;clear n hx;have l:=Zh (q.o d);obtain⟨x,a⟩:=eY (E xs k 0)
   rw[<-a]at t l;have u:=Zh a;clear a;by_cases f:x=(k:Int)
   .have g:(x != (k:Int))=false:=by simp[f]
    have e:=Zh f;clear f;go_wp2;go_round
    case rel=>exact⟨k+1,by omega,by go_num,λj p=>by
     rcases XM j k with h|h
     .exact m.o j h
     .obtain rfl:j=k:=by omega
      rw[<-u.o];exact e.o⟩
    case measure=>simp[intOf];omega
   .have g:(x != (k:Int))=true:=by simp[f]
    have e:=Zh (l.o f);go_wp2;go_ret;exact⟨Qd e.o.symm,rfl⟩
  .have e:=Zh (r.o (λi z=>m.o i (by omega)));go_wp2;go_ret;exact⟨Qd e.o.symm,rfl⟩
def abP(q:af){k:Nat}(hk:k<N q.ord.xs):(q.ord.xs.take (k+1)).map (λp=>E q.aH.xs p.toNat 0)=(q.ord.xs.take k).map (λp=>E q.aH.xs p.toNat 0)++[E q.aH.xs (E q.ord.xs k 0).toNat 0]:=by
 have e:E q.ord.xs k 0=q.ord.xs[k]:=by simp[List.getD,hk]
 rw[Qh hk,Ql,e];rfl
def NB{base':Nat}{size:Nat}{xs:List Value}(h:w.ownsRow base e size v n xs)(hb:base'<=base):w.ownsRow base' e size v n xs:=Xw h hb (λ_ _ _=>rfl)
def yl{n:Int}(h:aM xs n=T)(hk:k<N xs):0<=E xs k 0/\E xs k 0<n:=by unfold aM at h;rw[Qn]at h;have:=h _ (Xx hk (d:=0));simpa using this
theorem AZ(q:af)(w:U)(hq:q.At w)(hos:aM q.ord.xs (N q.aH.xs)=T)(hol:N q.ord.xs<=1000) :
  Calls V 110 #[FN q.cells] w λe w'=>∃v,e=FR v/\w'.ownsRow (M (H w)) 3 1 v (N (oq q)) ((oq q).map (Value.int J))/\Bw w w':=by
 obtain⟨t,f⟩:∃x,x=w.alloc (FL q.cells 26):=⟨_,rfl⟩;have i:Bw w t:=by rw[f];exact bJ _ _
 have C:GB t (M (H w)) 26 q.cells:=by rw[f];exact iX _ _
 have q5:=C.at 5;have q6:=C.at 6;have uE:=f.symm;have ET:Wl (aA w q.aH.ad q.aH.xs):=hq.aH;have D:Wl (aA w q.ord.ad q.ord.xs):=hq.ord;have G:=Zh hos;have m:Wl (∀k,k<N q.ord.xs->_):=λk B=>@abP q k B;have r:Wl (oq q=(q.ord.xs.take (N q.ord.xs)).map (λp=>E q.aH.xs p.toNat 0)):=by show _=_;rw[Zb];rfl
 have ak:=hq.aH.1;have HL:Wl (∀k,N ((q.ord.xs.take k).map (λp=>E q.aH.xs p.toNat 0))<=1000):=λk=>by grind
 clear f C hq hos;obtain⟨src,dx,aP,wh,j,u,y,⟨ea,ec,z⟩,⟨oa,oc,a⟩⟩:=q;unfold af.cells ae.val at*;simp only at*;generalize oq ⟨src,dx,aP,wh,j,u,y,⟨ea,ec,z⟩,⟨oa,oc,a⟩⟩=WN at*;obtain⟨W,A⟩:∃W:Nat->List Int,W=λk=>(a.take k).map (λp=>E z p.toNat 0):=⟨_,rfl⟩;have K:Wl (∀k,k<N a->W (k+1)=W k++[E z (E a k 0).toNat 0]):=λk B=>by rw[A];exact m.o k B
 have P:Wl (WN=W (N a)):=by show _=_;rw[A];exact r.o
 have Q:Wl (∀k,N (W k)<=1000):=λk=>by rw[A];exact HL.o k
 have R:Wl (W 0=[]):=by show _=_;rw[A];rfl
 clear A m r HL;go_enter Tryz.func110,Tryz.ntmps110;go_wp2;go_loopw [3,9] (λv iv wr=>∃k:Nat,k<=N a/\iv=I J k/\Wl (wr.ownsRow (M (H t)) 3 1 v (N (W k)) ((W k).map (Value.int J)))/\Bw t wr) (λ_ iv _=>N a-(intOf iv).toNat)
 case atStart=>exact⟨0,Q4 _,rfl,by rw[R.o];exact Xl _ _ _ _,Qr _ _⟩
 case round=>
  obtain⟨k,B,rfl,l,d⟩:=hrel;have au:=cB d q5;by_cases g:k<N a
  .have k1:=aj i d;obtain⟨ob,oo,rfl,aa⟩:=Qg D.o g;have av:=cB k1 (aa k g);have S:=yl G.o g;have HT:=Zh (K.o k g);have ai:=Q.o k;generalize E a k 0=p at*;obtain⟨n,rfl⟩:=XD S.1;have hn:n<N z:=by omega
   obtain⟨eb,eo,rfl,ag⟩:=Qg ET.o hn;have ax:=cB k1 (ag n hn);rw[Xu]at HT;generalize E z n 0=x at*;generalize ay:W k=L at*;obtain⟨ra,rm,rc,rfl⟩:=Xg l.o;obtain⟨v',w5,iW,mq,ah,⟨ua,um,uc,rfl⟩,-⟩:=iA wr (M (H t)) (Z ra rm rc) L l.o (by omega) d.size x 23;have X:=d.trans (ah.below d.size (λb hb e=>by have:=(Xf l.o e).1;omega));rw[<-HT.o]at mq;have zJ:Wl _:=mq;have jS:=Zh X;go_wp2_with (first|(at_builtin;refine Xy rfl (.tmp 13) (.tmp 19) 23 rfl (Z ra rm rc) (Z (O (aD (M (H wr)) 0)) 1 1) (Z ua um uc) w5 rfl rfl iW ?_));go_wp2;go_roundw
   case rel=>exact⟨k+1,by omega,by go_num,zJ.o,jS.o⟩
   case measure=>simp[intOf];omega
  .obtain rfl:k=N a:=by omega
   rw[<-P.o]at l;obtain⟨HF,HB⟩:=aV (NB l.o i.size) (aj i d);clear l d;go_wp2;go_ret;exact⟨_,rfl,HF.o,HB.o⟩
structure awi(q:af)(kind:Int):Prop where
 places:kind=9->aM q.ord.xs (N q.aH.xs)=T
 few:N q.ord.xs<=1000
theorem ND(q:af)(kind:Int)(oa:Option Addr)(oc:Nat)(order:List Int)(w:U)(hq:q.At w)(hk:awi q kind)(ho:aA w oa order)(hcap:N order<=oc) :
  Cb 57 #[FN q.cells,I J kind,Z oa (N order) oc] w (EP (uO q kind order)):=by
 obtain⟨t,g⟩:∃x,x=w.alloc (FL q.cells 26):=⟨_,rfl⟩;have b:Bw w t:=by rw[g];exact bJ _ _
 have R:GB t (M (H w)) 26 q.cells:=by rw[g];exact iX _ _
 obtain⟨q0,q1,q2,q3,q4,q5,q6⟩:=R.k7;have uE:=g.symm;have aa:=hq.ord.1;have ag:=hq.keys.1;have A:Wl (kind=9->_):=λe=>AZ q t (hq.below b) (hk.places e) hk.few;have B:Wl (∀Q bc ys x,Bw t x->aA x Q ys->_):=λQ bc ys x hb hy=>wF oa Q oc bc order ys x (Qt (aj b hb) ho) hy hcap;have f:Wl _:=NA q.ord.ad q.ord.cap q.ord.xs t (Qt b hq.ord);obtain⟨p,i⟩:=eY (uO q kind order);rw[<-i];have C:Wl (N (oq q)<=1000):=by show _<=_;unfold oq;rw[Q8];exact hk.few
 unfold uO at i;have a:=Zh i;clear i;generalize oq q=WN at*;generalize jI q.ord.xs=CB at*;have n:=Zh b;clear g R hq hk ho b;obtain⟨⟨sa,sc,src⟩,dx,aP,wh,L,⟨ka,kc,u⟩,⟨ua,uc,W⟩,⟨ea,ec,aH⟩,⟨da,dc,j⟩⟩:=q;unfold af.cells ae.val at*;simp only at*;by_cases z:N j=0
 .have d:Wl (p=T):=by show _=_;rw[a.o,Qu z]
  have qL:((N j:Int)==0)=true:=by rw[z];rfl
  clear a f A B z;go_enter Tryz.func57,Tryz.ntmps57;go_wp2;go_ret;exact⟨Qd d.o.symm,n.o⟩
 rw[QC z]at a;have qL:((N j:Int)==0)=false:=by rw[XN];omega
 clear z;by_cases m:kind=10
 .have d:Wl (p=T):=by show _=_;rw[a.o,Qu m]
  subst m;clear a f A B;go_enter Tryz.func57,Tryz.ntmps57;go_wp2;go_ret;exact⟨Qd d.o.symm,n.o⟩
 rw[QC m]at a;by_cases k9:kind=9
 .have d:Wl (p=aY order WN):=by show _=_;rw[a.o,Qu k9]
  have S:=A.o k9;subst k9;clear a f A;go_enter Tryz.func57,Tryz.ntmps57;go_wp2_with fail;refine S.mono ?_;clear S;rintro e X ⟨v,rfl,k,l⟩;obtain⟨ya,yc,rfl,y⟩:=jR k (by have:=C.o;omega);have r:=B.o ya yc WN X l y;rw[<-d.o]at r;have D:=Zh (aj n.o l);clear B k y l;go_wp2_with fail;refine r.mono ?_;rintro e w3 ⟨rfl,P⟩;have G:=Zh (aj D.o P);go_wp2;go_ret;exact⟨rfl,G.o⟩
 rw[QC k9]at a;by_cases k8:kind=8
 .rw[Qu k8]at a;subst k8;by_cases ah:N j<=N u
  .have d:Wl (p=CB):=by grind
   have K:=f.o;go_enter Tryz.func57,Tryz.ntmps57;go_wp2_with fail;refine XO K ?_;rintro e X ⟨rfl,rfl⟩;go_wp2;go_ret;exact⟨Qd d.o.symm,n.o⟩
  .have d:Wl (p=F):=by grind
   go_enter Tryz.func57,Tryz.ntmps57;go_wp2;go_ret;exact⟨Qd d.o.symm,n.o⟩
 .have d:Wl (p=F):=by show _=_;rw[a.o,QC k8]
  go_enter Tryz.func57,Tryz.ntmps57;go_wp2;go_ret;exact⟨Qd d.o.symm,n.o⟩
def nA(kind:Int)(ps:List aK):Bool:=ps.all λp=>il p.kind==decide (kind=10)
theorem Vx{kind:Int}{ps:List aK}{k:Nat}(hk:k<N ps)(h:(il (E ps k bz).kind==decide (kind=10))=F):nA kind ps=false:=by unfold nA;grind
theorem Vy{kind:Int}{ps:List aK}(h:∀i,i<N ps->(il (E ps i bz).kind==decide (kind=10))=T):nA kind ps=true:=by unfold nA;rw[Qn];intro p a;obtain⟨i,b,rfl⟩:=Qv a;grind
def A9(ts:List ag)(q:af)(l:List Int)(s i:Nat):Bool:=
 decide ((if i=0 then -1 else E l (i-1) 0)<E l i 0)&&decide (E l i 0<N q.wh)&&dG s (aZ (fP ts q.src.xs (E q.wh (E l i 0).toNat lz).cs))
theorem NL(kind:Int)(ao:Option Addr)(cap:Nat)(ps:List aK)(w:U)(hp:bP w ao ps) :
  Cb 53 #[I J kind,Z ao (N ps) cap] w (EP (nA kind ps)):=by
 have hl:=hp.1;have u:Wl _:=@Vx kind ps;have R:Wl _:=@Vy kind ps;have HP:Wl _:=hp;generalize nA kind ps=KL at*;clear hp;go_enter Tryz.func53,Tryz.ntmps53;go_wp2;go_loopw [9] (λQ wr=>∃k:Nat,k<=N ps/\Q=I J k/\Wl (∀j,j<k->(il (E ps j bz).kind==decide (kind=10))=T)/\Bw w wr) (λQ _=>N ps-(intOf Q).toNat)
 case atStart=>exact⟨0,Q4 _,rfl,λj hj=>absurd hj (by omega),Qr _ _⟩
 case round=>
  obtain⟨k,hk,rfl,r,g⟩:=hrel;by_cases q:k<N ps
  .obtain⟨⟨b,off,rfl,X,c1,c2,c3,c4,c5⟩,_⟩:=HP.o.2 k q;obtain⟨d0,d1,d2,d3,d4,d5⟩:=Dh g X c1 c2 c3 c4 c5;have m:=Zh (u.o q);have v:Wl (∀p,p=E ps k bz->(il p.kind==decide (kind=10))=T->∀j,j<k+1->(il (E ps j bz).kind==decide (kind=10))=T):=λp hp h j hj=>by
    rcases XM j k with W|W
    .exact r.o j W
    grind
   clear X c1 c2 c3 c4 c5 u r;obtain⟨p,hp⟩:=eY (E ps k bz);rw[<-hp]at d0 d1 d2 d3 d4 d5 m;have y:=Zh hp;clear hp;obtain⟨D,G,K,⟨pa,pc,px⟩,L,P⟩:=p;unfold ae.val at*;simp only at*;have z:=λx=>BU D x;obtain⟨t,l⟩:=eY (il D);rw[<-l]at m z;have A:=Zh l;clear l;have n:Bw w (wr.alloc (FL #[I J D,I Dc (G:Int),I Dc (K:Int),Z pa (N px) pc,I Dc (L:Int),I Dc (P:Int)] 120)):=aj g (bJ _ _);have S:=Zh n;clear n;have f:decide (kind=10)=(kind==10):=by rw[Zf];simp
   by_cases d:(t==decide (kind=10))=T
   .have B:(!(t==(kind==10)))=false:=by rw[<-f,d];rfl
    clear f;have HN:=Zh (v.o _ y.o (by rw[<-A.o];exact d));clear d v m;go_wp2_with fail;refine(z _).mono ?_;rintro e w2 ⟨rfl,rfl⟩;go_wp2;go_roundw
    case rel=>exact⟨k+1,by omega,by go_num,HN.o,S.o⟩
    case measure=>simp[intOf];omega
   .have a:(t==decide (kind=10))=false:=by simpa using d
    have C:=Zh (m.o a);have B:(!(t==(kind==10)))=true:=by rw[<-f,a];rfl
    clear f;clear d a v m;go_wp2_with fail;refine(z _).mono ?_;rintro e w2 ⟨rfl,rfl⟩;go_wp2;go_ret;exact⟨Qd C.o.symm,S.o⟩
  .have C:=Zh (R.o (λi hi=>r.o i (by omega)));clear u R r;go_wp2;go_ret;exact⟨Qd C.o.symm,g⟩
def aiL(ok:Ok ts q)(hk:k<N q.wh):aZ (fP ts q.src.xs (E q.wh k lz).cs)<18446744073709551616:=
 (zS ok.cat ok.src (ok.cols k hk)).lt ok.small
theorem ab0{ts:List ag}{q:af}{l:List Int}{s k:Nat}(hk:k<N l)(h:A9 ts q l s k=F):jm ts q l s=false:=by show (List.range (N l)).all (A9 ts q l s)=F;grind
theorem ab1{ts:List ag}{q:af}{l:List Int}{s:Nat}(h:∀i,i<N l->A9 ts q l s i=T):jm ts q l s=true:=by show (List.range (N l)).all (A9 ts q l s)=T;grind
theorem yx(f:bq)(ts:List ag)(q:af)(la:Option Addr)(lc:Nat)(l:List Int)(s:Nat)(w:U)(ok:Ok ts q)(hf:f.At ts q w)(hl:aA w la l)(hs:s<18446744073709551616) :
  Cb 99 #[FN (f.cells ts q),Z la (N l) lc,I Dc (s:Int)] w (EP (jm ts q l s)):=by
 obtain⟨D,d⟩:∃x,x=w.alloc (FL (f.cells ts q) 63):=⟨_,rfl⟩;have b:Bw w D:=by rw[d];exact bJ _ _
 have X:GB D (M (H w)) 63 (f.cells ts q):=by rw[d];exact iX _ _
 have q1:=X.at 1;have aa:Am D (aD (M (H w)) 11)=O (Z f.na (N q.wh) f.nc):=by rw[<-hf.nl];exact X.cell 11
 have uE:w.alloc (FL (f.cells ts q) 63)=D:=d.symm;have ae:Wl _:=hf.ame.below b;have ah:Wl _:=Qt b hl;have aB:=hl.1;have ai:=hf.query.wh.1;have HB:Wl _:=@ab0 ts q l s;have HA:Wl _:=@ab1 ts q l s;have z:Wl (∀i,A9 ts q l s i=(decide ((if i=0 then -1 else E l (i-1) 0)<E l i 0)&&decide (E l i 0<N q.wh)&&dG s (aZ (fP ts q.src.xs (E q.wh (E l i 0).toNat lz).cs)))):=λ_=>rfl;have A:Wl (∀k,k<N q.wh->E (BS ts q) k 0=aZ (fP ts q.src.xs (E q.wh k lz).cs)/\aZ (fP ts q.src.xs (E q.wh k lz).cs)<18446744073709551616):=λk G=>⟨LD ts q G,aiL ok G⟩;have sO:Wl _:=Lu ts q;have R:Wl _:=b;generalize jm ts q l s=RB at*;obtain⟨y,r⟩:∃y:Nat->Nat,y=λk=>aZ (fP ts q.src.xs (E q.wh k lz).cs):=⟨_,rfl⟩;have Rv:Wl (∀i,A9 ts q l s i=(decide ((if i=0 then -1 else E l (i-1) 0)<E l i 0)&&decide (E l i 0<N q.wh)&&dG s (y (E l i 0).toNat))):=λi=>by rw[r];exact z.o i
 have aj:Wl (∀k,k<N q.wh->E (BS ts q) k 0=y k/\y k<18446744073709551616):=λk G=>by rw[r];exact A.o k G
 clear r z A;generalize A9 ts q l s=RA at*;generalize BS ts q=CL at*;generalize az:N q.wh=nw at*;clear az;generalize f.cells ts q=FC at*;have aC:nw<=1152921504606846976:=ai;clear d X hf hl ok b;go_enter Tryz.func99,Tryz.ntmps99;go_wp2;clear uE;go_loopw [7,12] (λlv iv wr=>∃k:Nat,k<=N l/\iv=I J k/\(∃last:Int,lv=I J last/\-1<=last/\Wl (last=if k=0 then -1 else E l (k-1) 0))/\Wl (∀j,j<k->RA j=T)/\wr=D) (λ_ iv _=>N l-(intOf iv).toNat)
 case atStart=>exact⟨0,Q4 _,rfl,⟨-1,rfl,by omega,rfl⟩,λj hj=>absurd hj (by omega),rfl⟩
 case round=>
  obtain⟨k,G,rfl,⟨last,rfl,ax,DU⟩,S,rfl⟩:=hrel;by_cases u:k<N l
  .obtain⟨lb,lo,rfl,K⟩:=Qg ah.o u;have ak:=K k u;have a:Wl _:=Rv.o k;have g:Wl _:=HB.o u;rw[<-DU.o]at a;have Rw:Wl (∀c,c=E l k 0->c=if k+1=0 then -1 else E l (k+1-1) 0):=λc hc=>by rw[QC (by omega)];exact hc
   have B:Wl (RA k=T->∀j,j<k+1->RA j=T):=λh j hj=>by
    rcases XM j k with h'|h'
    .exact S.o j h'
    grind
   clear K DU S HB HA Rv;obtain⟨c,t⟩:=eY (E l k 0);rw[<-t]at ak a;have au:Wl _:=Rw.o c t;clear t Rw;by_cases h1:c<=last
   .have p:Wl (RB=F):=g.o (by rw[a.o,QX (by omega)];rfl);clear a g B;go_wp2;go_ret;exact⟨Qd p.o.symm,R.o⟩
   by_cases h2:(nw:Int)<=c
   .have p:Wl (RB=F):=g.o (by rw[a.o,QX (show ¬c<(nw:Int) by omega),XZ];rfl);clear a g B;go_wp2;go_ret;exact⟨Qd p.o.symm,R.o⟩
   obtain⟨n,rfl⟩:=XD (show 0<=c by omega);have hn:n<nw:=by omega
   obtain⟨L,ay⟩:=aj.o n hn;obtain⟨cb,co,P,Q⟩:=iB.get ae.o (show n<N CL by rw[sO.o];exact hn);have av:=Q n (by rw[sO.o];exact hn);rw[L]at av;rw[Xu]at a;clear Q L;rw[P]at aa;clear P;generalize y n=m at*;have v:=vU s m hs ay wr;by_cases W:dG s m=T
   .rw[W]at v a;have HT:Wl _:=B.o (by rw[a.o,QD (by omega),QD (by omega)];rfl);clear a g B W;go_wp2_with fail;refine v.mono ?_;clear v;rintro e w2 ⟨rfl,rfl⟩;go_wp2;go_roundw
    case rel=>exact⟨k+1,by omega,by go_num,⟨n,rfl,by omega,au.o⟩,HT.o,trivial⟩
    case measure=>simp[intOf];omega
   .have C:dG s m=false:=by simpa using W
    rw[C]at v a;have p:Wl (RB=F):=g.o (by rw[a.o,XZ]);clear a g B W C;go_wp2_with fail;refine v.mono ?_;clear v;rintro e w2 ⟨rfl,rfl⟩;go_wp2;go_ret;exact⟨Qd p.o.symm,R.o⟩
  .have p:Wl (RB=T):=HA.o (λi hi=>S.o i (by omega));clear HB HA S;go_wp2;go_ret;exact⟨Qd p.o.symm,R.o⟩
def ab2(ts:List ag)(q:af)(hk:k<N xs):aZ (nS ts q (xs.take (k+1)))=aZ (nS ts q (xs.take k))|||2 ^ au ts q.src.xs (E xs k 0):=by
 have e:E xs k 0=xs[k]:=by simp[List.getD,hk]
 unfold nS;rw[Qh hk,Ql,EG,e];show _|||aZ [(au ts q.src.xs xs[k]:Int)]=_;rw[xN]
def uU(ts:List ag)(q:af)(xs:List Int):Prop:=∀c∈xs,0<=c/\c<ak ts q.src.xs
def Ba(ok:Ok ts q)(h:uU ts q xs):bM (N q.src.xs) (nS ts q xs):=λx e=>by obtain⟨c,a,rfl⟩:=Zi.1 e;obtain⟨b,d⟩:=h c a;have:=(Za ok.cat ok.src b d).1;omega
def aiP(ok:Ok ts q)(h:uU ts q xs)(k:Nat):aZ (nS ts q (xs.take k))<18446744073709551616:=
 (Ba ok (λc a=>h c (XC a))).lt ok.small
def DV(ok:Ok ts q):(N (iL ts q):Int)=ak ts q.src.xs:=by have:=iZ ok.cat ok.src (N q.src.xs) (Qs _);rw[Zb]at this;exact this
def Hy(ok:Ok ts q)(h0:0<=c)(h1:c<ak ts q.src.xs):au ts q.src.xs c<N q.src.xs:=(Za ok.cat ok.src h0 h1).1
theorem yz(c:aF)(w:U) :
  Cb 147 #[c.val] w (EP (!c.const&&decide (c.op≠2))):=by
 obtain⟨b,d,left,a,right⟩:=c;have e:=bJ w (FL #[EP b,I J d,I J left,EP a,I J right] 90);have f:=Zh e;clear e;have g:Wl (decide (d≠2)=(d != 2)):=by show _=_;rw[Zf];simp
 unfold aF.val
 cases a with
 |false =>
  go_enter Tryz.func147,Tryz.ntmps147;go_wp2;go_ret;exact⟨Qd (by grind),f.o⟩
 |true =>
  go_enter Tryz.func147,Tryz.ntmps147;go_wp2;go_ret;exact⟨rfl,f.o⟩
def Bb(w:U)(xs:List Int)(t:TypeId)(hl:N xs<=1000):aA (w.alloc (FL (xs.map (Value.int J)).toArray t)) (O (aD (M (H w)) 0)) xs:=by refine⟨by omega,λi a=>⟨M (H w),0,rfl,?_⟩⟩;simp only[World.cell?,iX w _];simp[List.getD,a]
theorem xq(c:aF)(w:U) :
  Calls V 97 #[c.val] w λe z=>∃b,e=FR (Z (O (aD b 0)) (N (aL c)) (N (aL c)))/\aA z (O (aD b 0)) (aL c)/\Bw w z:=by
 have q:Wl _:=λx=>yz c x;obtain⟨C,f,g,t⟩:=aX w #[EP c.not,I J c.op,I J c.left,EP c.const,I J c.right] 90;obtain⟨u,v,k,y,m⟩:=t.k5;have i:Wl (aL c=if (!c.const&&decide (c.op≠2))=T then [c.left,c.right] else [c.left]):=by show _=_;unfold aL;grind
 have j:=q.o C;generalize (!c.const&&decide (c.op≠2))=B at*;generalize aL c=CC at*;clear q t;obtain⟨D,G,left,n,right⟩:=c;unfold aF.val at*;simp only at*;have r:=Zh g;clear g
 cases B with
 |true =>
  obtain rfl:CC=[left,right]:=i.o;have l:Wl (∀x:U,aA (x.alloc (FL #[I J left,I J right] 3)) (O (aD (M (H x)) 0)) [left,right]):=λx=>Bb x [left,right] _ (by simp);clear i;go_enter Tryz.func97,Tryz.ntmps97;go_wp2_with fail;refine j.mono ?_;clear j f;rintro e p ⟨rfl,a⟩;obtain⟨A,K⟩:=gy a k m;have d:=Zh (aj (aj r.o a) (bJ p (FL #[I J left,I J right] 3)));clear a u v k y m;go_wp2;go_ret;exact⟨_,rfl,l.o _,d.o⟩
 |false =>
  obtain rfl:CC=[left]:=i.o;have l:Wl (∀x:U,aA (x.alloc (FL #[I J left] 3)) (O (aD (M (H x)) 0)) [left]):=λx=>Bb x [left] _ (by simp);clear i;go_enter Tryz.func97,Tryz.ntmps97;go_wp2_with fail;refine j.mono ?_;clear j f;rintro e p ⟨rfl,a⟩;have A:=cB a k;have d:=Zh (aj (aj r.o a) (bJ p (FL #[I J left] 3)));clear a u v k y m;go_wp2;go_ret;exact⟨_,rfl,l.o _,d.o⟩
def Ad(f:bq)(ts:List ag)(q:af)(xa:Option Addr)(xc:Nat)(xs:List Int)(w:U)(ok:Ok ts q)(hf:jL w f.ca (iL ts q))(hx:aA w xa xs)(hxs:uU ts q xs) :
  Cb 96 #[FN (f.cells ts q),Z xa (N xs) xc] w (I Dc ((aZ (nS ts q xs):Nat):Int)):=by
 obtain⟨A,i⟩:∃x,x=w.alloc (FL (f.cells ts q) 63):=⟨_,rfl⟩;have g:Bw w A:=by rw[i];exact bJ _ _
 have fV:GB A (M (H w)) 63 (f.cells ts q):=by rw[i];exact iX _ _
 have q7:=fV.at 7;have uE:=i.symm;have pE:Wl _:=hf.below g;have C:Wl _:=Qt g hx;have aa:=hx.1;have ae:=hf.1;have t:Wl (∀k,k<N xs->aZ (nS ts q (xs.take (k+1)))=aZ (nS ts q (xs.take k))|||2 ^ au ts q.src.xs (E xs k 0)):=λk B=>ab2 ts q B;have vH:Wl (∀k,aZ (nS ts q (xs.take k))<18446744073709551616):=λk=>aiP ok hxs k;have ET:Wl (aZ (nS ts q (xs.take (N xs)))=aZ (nS ts q xs)):=by show _=_;rw[Zb]
 have Mc:Wl (aZ (nS ts q (xs.take 0))=0):=rfl;have D:Wl (∀k,k<N xs->∃n:Nat,E xs k 0=n/\n<N (iL ts q)/\(E (iL ts q) n (0,0)).1=au ts q.src.xs (E xs k 0)/\au ts q.src.xs (E xs k 0)<64):=λk B=>by obtain⟨h0,h1⟩:=hxs _ (Xx B (d:=0));have h2:=DV ok;have h3:=Hy ok h0 h1;have h4:=ok.small;refine⟨(E xs k 0).toNat,by omega,by omega,rfl,by omega⟩
 have rH:=Zh g;obtain⟨r,a⟩:∃r:Nat->Nat,r=λk=>aZ (nS ts q (xs.take k)):=⟨_,rfl⟩;have G:Wl (∀k,k<N xs->r (k+1)=r k|||2 ^ au ts q.src.xs (E xs k 0)):=by rw[a];exact t.o
 have K:Wl (∀k,r k<18446744073709551616):=by rw[a];exact vH.o
 have L:Wl (r (N xs)=aZ (nS ts q xs)):=by rw[a];exact ET.o
 have P:Wl (r 0=0):=by rw[a];exact Mc.o
 generalize aZ (nS ts q xs)=R at*;generalize au ts q.src.xs=SN at*;generalize iL ts q=CS at*;generalize f.cells ts q=FC at*;clear a t vH ET Mc i fV g ok hxs hf hx;go_enter Tryz.func96,Tryz.ntmps96;go_wp2;clear uE;go_loopw [5,10] (λsv iv wr=>∃k:Nat,k<=N xs/\iv=I J k/\(∃s:Nat,sv=I Dc (s:Int)/\Wl (s=r k))/\Bw A wr) (λ_ iv _=>N xs-(intOf iv).toNat)
 case atStart=>exact⟨0,Q4 _,rfl,⟨0,rfl,P.o.symm⟩,Qr _ _⟩
 case round=>
  obtain⟨k,B,rfl,⟨s,rfl,v⟩,b⟩:=hrel;by_cases l:k<N xs
  .obtain⟨xb,xo,rfl,qK⟩:=Qg C.o l;have Q:=cB b (qK k l);obtain⟨n,hn,W,y,z⟩:=D.o k l;have HT:=Zh (G.o k l);have S:s<18446744073709551616:=by rw[v.o];exact K.o k
   obtain⟨cb,co,Md,c0,_⟩:=pE.o.2 n W;obtain⟨d0,X⟩:=gy b c0 q7;rw[Md]at X;rw[hn]at Q;rw[y]at d0;rw[<-v.o]at HT;clear qK c0 Md y v;generalize SN (E xs k 0)=m at*;clear hn;obtain⟨wa,De⟩:∃x,wr.alloc (FL #[I J (m:Int)] 3)=x:=⟨_,rfl⟩;have YO:=LH (M (H wr)) m wa (by rw[<-De];simp) z;obtain⟨wb,j⟩:∃x,wa.alloc (FL #[I Dc (s:Int),I Dc ((2 ^ m:Nat):Int)] 59)=x:=⟨_,rfl⟩;have hp:2 ^ m<18446744073709551616:=XB (n:=64) (by omega) z;have u:=zi (M (H wa)) s (2 ^ m) wb (by rw[<-j];simp) (by rw[<-j];simp) S hp;have Kg:Wl (Bw A wb):=by show Below _ _ _;rw[<-j,<-De];exact aj (aj b (bJ _ _)) (bJ _ _)
   generalize 2 ^ m=p at*;go_wp2_with fail;refine YO.mono ?_;clear YO;rintro e w2 ⟨rfl,rfl⟩;go_wp2_with fail;refine u.mono ?_;clear u;rintro e w3 ⟨rfl,rfl⟩;clear De j;go_wp2;go_roundw
   case rel=>exact⟨k+1,by omega,by go_num,⟨s|||p,rfl,HT.o.symm⟩,Kg.o⟩
   case measure=>simp[intOf];omega
  .obtain rfl:k=N xs:=by omega
   obtain⟨HV,HB⟩:=aV (v.o.trans L.o) (aj rH.o b);clear v b;go_wp2;go_ret;exact⟨Qe (by rw[HV.o]),HB.o⟩
def Iu(f:bq)(ts:List ag)(q:af):∃v0 e g v3 v4 v5 i j k v9 a b d,f.cells ts q=#[v0,e,g,v3,v4,v5,i,j,k,v9,a,b,d]/\v0=q.src.val/\e=Z q.dx (N q.wh) q.aP/\g=EP q.group/\v3=q.keys.val/\v4=q.sums.val/\v5=q.aH.val/\i=q.ord.val/\
  j=Z f.ca (N (iL ts q)) f.cc/\k=I Dc ((2 ^ (N q.src.xs)-1:Nat):Int)/\v9=I Dc ((2 ^ (N q.wh)-1:Nat):Int)/\a=Z f.ra (N q.src.xs) f.rc/\b=Z f.na f.nl f.nc/\d=Z f.pa f.pl f.pc:=
 ⟨_,_,_,_,_,_,_,_,_,_,_,_,_,rfl,rfl,rfl,rfl,rfl,rfl,rfl,rfl,rfl,rfl,rfl,rfl,rfl,rfl⟩
theorem yI(f:bq)(ts:List ag)(q:af)(p:aK)(w:U) :
  Cb 104 #[FN (f.cells ts q),FN p.cells] w (EP (jV q p.d)):=by
 obtain⟨y,z,k,g⟩:=aX w ((f.cells ts q)) 63;obtain⟨P,A,l,m⟩:=aX y p.cells 120;have e:=l;have i:=aj k e;have n:=g.of (e.block _ g.lt);have D:=n.at 8;have G:=n.at 9;have r:=m;have K:=r.at 1;have L:=r.at 2;have u:Wl (jV q p.d=(decide (p.sources=2 ^ (N q.src.xs)-1)&&decide (p.clauses=2 ^ (N q.wh)-1))):=rfl;have t:=Zh i;generalize jV q p.d=B at*;generalize f.cells ts q=FC at*;generalize p.cells=PC at*;generalize 2 ^ (N q.src.xs)-1=s at*;generalize 2 ^ (N q.wh)-1=c at*;generalize p.sources=a at*;generalize p.clauses=b at*;by_cases C:a=s
 .subst C;have j:Wl (B=((b:Int)==(c:Int))):=by show _=_;rw[u.o,QD rfl,QE,Zf,Qz,beq_iff_eq];omega
  go_enter Tryz.func104,Tryz.ntmps104;go_wp2;go_ret;exact⟨Qd j.o.symm,t.o⟩
 .have j:Wl (B=F):=by grind
  have v:((a:Int)==(s:Int))=false:=by rw[XN];omega
  go_enter Tryz.func104,Tryz.ntmps104;go_wp2;go_ret;exact⟨Qd j.o.symm,t.o⟩
theorem wP(f:bq)(ts:List ag)(q:af)(n:ai)(l r:aK)(w:U)(ok:Ok ts q)(hf:f.At ts q w)(hn:n.cl.At w)(hl:l.sources<=aU)(hr:r.sources<=aU) :
  Cb 100 #[FN (f.cells ts q),FN n.cells,FN l.cells,FN r.cells] w (EP (kQ ts q n l.sources r.sources)):=by
 obtain⟨v0,v1,v2,v3,v4,v5,v6,v7,v8,v9,ak,au,av,dY,-⟩:=Iu f ts q;obtain⟨w1,Q,R,z⟩:=aX w ((f.cells ts q)) 63;obtain⟨w2,ax,S,A⟩:=aX w1 n.cells 50;obtain⟨w3,ay,W,B⟩:=aX w2 l.cells 120;obtain⟨w4,az,X,aa⟩:=aX w3 r.cells 120;have t:=X;have u:=aj W t;have v:=aj S u;have i:=aj R v;have fG:=z.of (v.block _ z.lt);have jA:=A.of (u.block _ A.lt);have jQ:=jA.at 4;have C:=B.of (t.block _ B.lt);have Sl:=C.at 1;have D:=aa;have Sm:=D.at 1;obtain⟨dM,dX,dQ,dR,eu,eU,eH,gq,gm,gp,bY,dw,bZ⟩:=fG.zR (by rw[dY];rfl);have y:Wl (∀x,Bw w4 x->∀s:Nat,s<18446744073709551616->Cb 99 #[FN (f.cells ts q),Z n.cl.ad (N n.cl.xs) n.cl.cap,I Dc (s:Int)] x (EP (jm ts q n.cl.xs s))):=λx hb s hs=>
  yx f ts q n.cl.ad n.cl.cap n.cl.xs s x ok (hf.below (aj i hb)) (Qt (aj i hb) hn) hs
 have HV:Wl (kQ ts q n l.sources r.sources=(decide (l.sources &&& r.sources=0)&&jm ts q n.cl.xs (l.sources|||r.sources))):=rfl;have j:l.sources<18446744073709551616:=by unfold aU at hl;omega
 have k:r.sources<18446744073709551616:=by unfold aU at hr;omega
 have g:=aby l.sources r.sources j k w4;have G:Wl (∀(x:U) (b:Nat),_->_->_):=λx b h0 h1=>zi b l.sources r.sources x h0 h1 j k;have L:l.sources|||r.sources<18446744073709551616:=Nat.or_lt_two_pow (n:=64) j k;obtain⟨ah,HC⟩:=aV L i;rw[dY]at y Q ⊢;obtain⟨nk,nl,nr,ns,⟨na,nc,nx⟩,ny,no⟩:=n;unfold ae.val at*;simp only at*;generalize kQ ts q _ l.sources r.sources=Jq at*;generalize jm ts q nx=RB at*;generalize ai.cells _=NC at*;generalize l.cells=LC at*;generalize r.cells=RC at*;generalize l.sources=a at*;generalize r.sources=b at*;by_cases hm:a &&& b=0
 .have m:decide (a &&& b≠0)=false:=QX (λh=>h hm);have P:Wl (Jq=RB (a|||b)):=by grind
  rw[m]at g;go_enter Tryz.func100,Tryz.ntmps100;go_wp2_with fail;refine g.mono ?_;rintro e w5 ⟨rfl,rfl⟩;go_wp2;refine wH w5 λd=>?_;refine wA6 0 d ?_;refine Fz 6 d ?_;refine wR 7 λK p=>?_;go_simp;refine oA p d λd=>?_;refine wR 8 λK p=>?_;go_simp;refine XO (G.o _ (M (H w5)) (by simp) (by simp)) ?_;rintro e w6 ⟨rfl,rfl⟩;refine p.o _ _ d λd=>?_;refine wR 9 λK p=>?_;go_simp;refine XO (y.o _ d (a|||b) ah.o) ?_;rintro e w7 ⟨rfl,nW⟩;refine oT p d nW λd=>?_;refine wR 10 λK p=>?_;go_simp;refine p.o _ _ d λd=>?_;refine wD ?_;try simp only[pU]
  have Df:=Zh (aj HC.o d);go_wp2;go_ret;exact⟨Qd P.o.symm,Df.o⟩
 .have m:decide (a &&& b≠0)=true:=QD hm;have P:Wl (Jq=F):=by grind
  rw[m]at g;go_enter Tryz.func100,Tryz.ntmps100;go_wp2_with fail;refine g.mono ?_;rintro e w5 ⟨rfl,rfl⟩;go_wp2;go_ret;exact⟨Qd P.o.symm,HC.o⟩
def Jf:=@Iu
