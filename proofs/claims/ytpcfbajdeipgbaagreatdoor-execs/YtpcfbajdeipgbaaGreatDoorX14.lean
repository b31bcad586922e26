import Derived.Test.YtpcfbajdeipgbaaGreatDoorX02
set_option linter.all false
set_option maxRecDepth 100000
set_option maxHeartbeats 0
namespace Go.Proofs.Zz
open Go.RowKit Go.Shelf
open List renaming length->N,getD->E
open Go.Value renaming slice->Z,int->I,bool->EP
open Go.IntKind renaming i64->J
open Bool renaming false->F,true->T
open Go renaming World->U
variable {ps xs ys:List Int} {k:Nat}
def JL{w:U}{ao:Option Addr}(h:aA w ao xs)(n:Nat):aA (w.drewN n) ao xs:=h.below (Qy (Qr _ _) _)
def sJ(ao bo:Option Addr)(cap cap':Nat)(xs:List Int)(w:U)(n m:Nat)(hx:aA w ao xs)(hy:aA w bo xs) :
  Calls Tryz.prog 27 #[Z ao (N xs) cap,Z bo (N xs) cap'] (w.drewN (n+m)) λe w''=>e=.returned (EP T)/\∃m',w'' = w.drewN (n+m'):=
 (Da ao bo cap cap' xs (w.drewN (n+m)) (JL hx _) (JL hy _)).mono λ_ _ ⟨he,k',hk'⟩=>⟨he,m+k',by rw[hk',XE,Nat.add_assoc]⟩
def Au(ao bo:Option Addr)(cap cap':Nat)(ns ms:List ai)(w:U)(hx:bT w ao ns)(hy:bT w bo ms)(he:N ns=N ms)(hs:∀i,i<N ns->(E ns i nz).same (E ms i nz)) :
  Cb 25 #[Z ao (N ns) cap,Z bo (N ms) cap'] w (EP T):=by
 have hl:=hx.1;rw[<-he];have HE:Hid (N ns=N ms):=he;clear he;have aa:((N ns:Int) != N ns)=false:=by simp
 go_enter Tryz.func25,Tryz.ntmps25;go_wp2;go_loopw [5] (λi wr=>∃k:Nat,k<=N ns/\i=I J k/\∃n,wr=w.drewN n) (λi _=>N ns-(intOf i).toNat)
 case atStart=>exact⟨0,Q4 _,rfl,0,rfl⟩
 case round=>
  obtain⟨k,hk,rfl,n,rfl⟩:=hrel;by_cases a:k<N ns
  .obtain⟨b,off,rfl,c0,c1,c2,c3,v,c5,y,i1,i2⟩:=hx.2 k a;obtain⟨b',Gi,rfl,d0,d1,d2,d3,z,d5,A,d,e⟩:=hy.2 k (by have:=HE.o;omega);obtain⟨B,C,D,G,K,L,P⟩:=hs k a;clear hx hy hs;generalize E ns k nz=x1 at*;generalize E ms k nz=x2 at*;obtain⟨Q,R,S,W,⟨f,g,j⟩,X,⟨Ux,l,p⟩⟩:=x1;obtain⟨kb,lb,rb,sb,⟨q,r,af⟩,yb,⟨t,u,ag⟩⟩:=x2;unfold ae.At at i1 i2 d e;unfold ae.val at v y z A;simp only at B C D G K L P i1 i2 d e c0 c1 c2 c3 v c5 y d0 d1 d2 d3 z d5 A;subst B C D G K L P;have t0:(Q != Q)=false:=by simp
   have t1:(R != R)=false:=by simp
   have t2:(S != S)=false:=by simp
   have t3:(W != W)=false:=by simp
   have t5:(X != X)=false:=by simp
   go_wp2;refine wp_region_quiet_lit (by kernel_rfl) (by kernel_rfl) ?_
   repeat (go_big_quiet_step (fail))
   go_big_quiet_want;refine⟨EP T,λx hx=>?_,?_⟩
   .obtain⟨m,rfl⟩:=hx;have hC:=sJ f q g r j w n m i1 d;go_simp
   simp only[pA,sB,sC];go_big_quiet_on
   repeat (go_big_quiet_step (fail))
   refine XH ?_;intro x hx;obtain⟨m,rfl⟩:=hx;rw[XE];generalize n+m=n';go_wp2;refine wp_region_quiet_lit (by kernel_rfl) (by kernel_rfl) ?_
   repeat (go_big_quiet_step (fail))
   go_big_quiet_want;refine⟨EP T,λx hx=>?_,?_⟩
   .obtain⟨m,rfl⟩:=hx;have hC:=sJ Ux t l u p w n' m i2 e;go_simp
   simp only[pA,sB,sC];go_big_quiet_on
   repeat (go_big_quiet_step (fail))
   refine XH ?_;intro x hx;obtain⟨m,rfl⟩:=hx;rw[XE];generalize n'+m=n2;go_wp2;go_quiet (fail);go_wp2;go_roundw
   case rel=>exact⟨k+1,by omega,by go_num,_,rfl⟩
   case measure=>simp[intOf];omega
  .go_wp2;go_ret;exact⟨rfl,Qy (Qr _ _) _⟩
def Av(ao bo:Option Addr)(cap cap':Nat)(rs ss:List ae)(w:U)(hx:fF w ao rs)(hy:fF w bo ss)(he:N rs=N ss)(hs:∀i,i<N rs->(E rs i iz).xs=(E ss i iz).xs) :
  Cb 10 #[Z ao (N rs) cap,Z bo (N ss) cap'] w (EP T):=by
 have A:=hx.1;rw[<-he];have f:Hid (N rs=N ss):=he;clear he;have y:((N rs:Int) != N rs)=false:=by simp
 go_enter Tryz.func10,Tryz.ntmps10;go_wp2;go_loopw [5] (λi wr=>∃k:Nat,k<=N rs/\i=I J k/\∃n,wr=w.drewN n) (λi _=>N rs-(intOf i).toNat)
 case atStart=>exact⟨0,Q4 _,rfl,0,rfl⟩
 case round=>
  obtain⟨k,C,rfl,n,rfl⟩:=hrel;by_cases a:k<N rs
  .obtain⟨b,off,rfl,v⟩:=hx.2.1.get a;obtain⟨b',Gi,rfl,e⟩:=hy.2.1.get (show k<N ss by have:=f.o;omega);have t:=v k a;have u:=e k (by have:=f.o;omega);have i1:=hx.2.2 k a;have g:=hy.2.2 k (by have:=f.o;omega);have d:=hs k a;clear v e hx hy hs;generalize E rs k iz=x1 at*;generalize E ss k iz=x2 at*;obtain⟨j,l,p⟩:=x1;obtain⟨q,r,z⟩:=x2;simp only at d;subst d;unfold ae.At at i1 g;unfold ae.val at t u;simp only at t u i1 g;go_wp2;refine wp_region_quiet_lit (by kernel_rfl) (by kernel_rfl) ?_
   repeat (go_big_quiet_step (fail))
   go_big_quiet_want;refine⟨EP T,λx hx=>?_,?_⟩
   .obtain⟨m,rfl⟩:=hx;have B:=sJ j q l r p w n m i1 g;go_simp
   simp only[pA,sB,sC];go_big_quiet_on
   repeat (go_big_quiet_step (fail))
   refine XH ?_;intro x hx;obtain⟨m,rfl⟩:=hx;rw[XE];generalize n+m=n';go_wp2;go_roundw
   case rel=>exact⟨k+1,by omega,by go_num,_,rfl⟩
   case measure=>simp[intOf];omega
  .go_wp2;go_ret;exact⟨rfl,Qy (Qr _ _) _⟩
def jW(a b:Int):Bool:=if a=1073741824∨b=1073741824 then decide (a=1073741824)&&decide (b≠1073741824) else decide (a<b)
def kI(xs ys:List Int):List Int->Bool
 |[]=>F
 |p::ps=>if E xs p.toNat 0=E ys p.toNat 0 then kI xs ys ps else jW (E xs p.toNat 0) (E ys p.toNat 0)
def OQ(hk:k<N ps):kI xs ys (ps.drop k) =
  if E xs ps[k].toNat 0=E ys ps[k].toNat 0 then kI xs ys (ps.drop (k+1)) else jW (E xs ps[k].toNat 0) (E ys ps[k].toNat 0):=by rw[Zw hk,kI]
def TL{b:Int}(hb:¬b=1073741824):T=jW 1073741824 b:=by simp[jW,hb]
def TM:F=jW 1073741824 1073741824:=by simp[jW]
def TN{a:Int}(ha:¬a=1073741824):F=jW a 1073741824:=by simp[jW,ha]
def adf{a b:Int}(ha:¬a=1073741824)(hb:¬b=1073741824):decide (a<b)=jW a b:=by simp[jW,ha,hb]
def adg(a b:Int)(w:U) :
  Ce 139 #[I J a,I J b] w (EP (jW a b)):=by
 have g:=@TL b;have i:=@TN a;have j:=@adf a b;by_cases f:a=1073741824
 .by_cases d:b=1073741824
  .subst f d;have e:=Zh TM;clear g i j;generalize jW 1073741824 1073741824=R at*;go_enter Tryz.func139,Tryz.ntmps139;go_wp2;go_ret;exact⟨Qd e.o,rfl⟩
  .subst f;have e:=Zh (g d);have k:(b==1073741824)=false:=by simpa using d
   have l:(b != 1073741824)=true:=by simpa using d
   clear g i j d;generalize jW 1073741824 b=R at*;go_enter Tryz.func139,Tryz.ntmps139;go_wp2;go_ret;exact⟨Qd e.o,rfl⟩
 .have m:(a==1073741824)=false:=by simpa using f
  by_cases d:b=1073741824
  .subst d;have e:=Zh (i f);clear g i j f;generalize jW a 1073741824=R at*;go_enter Tryz.func139,Tryz.ntmps139;go_wp2;go_ret;exact⟨Qd e.o,rfl⟩
  .have e:=Zh (j f d);have k:(b==1073741824)=false:=by simpa using d
   clear g i j f d;generalize jW a b=R at*;go_enter Tryz.func139,Tryz.ntmps139;go_wp2;go_ret;exact⟨Qd e.o,rfl⟩
def Ya(ao bo po:Option Addr)(ca cb cp:Nat)(xs ys ps:List Int)(w:U)(hx:aA w ao xs)(hy:aA w bo ys)(hp:aA w po ps)(h1:aM ps (N xs)=T)(h2:aM ps (N ys)=T) :
  Ce 78 #[Z ao (N xs) ca,Z bo (N ys) cb,Z po (N ps) cp] w (EP (kI xs ys ps)):=by
 have C:=hp.1;obtain⟨A,B⟩:=aV h1 h2;clear h1 h2;go_enter Tryz.func78,Tryz.ntmps78;go_wp2;go_loop [7] (λi=>∃k:Nat,k<=N ps/\i=I J k/\Hid (kI xs ys ps=kI xs ys (ps.drop k))) (λi=>N ps-(intOf i).toNat)
 case atStart=>exact⟨0,Q4 _,rfl,by rw[List.drop_zero];exact rfl⟩
 case round=>
  obtain⟨k,K,rfl,m⟩:=hrel;by_cases b:k<N ps
  .obtain⟨L,P,rfl,r⟩:=hp.get b;have t:=r k b;have D:=Qo A.o b;have G:=Qo B.o b;have n:ps[k].toNat<N xs:=by omega
   have p:ps[k].toNat<N ys:=by omega
   obtain⟨Q,R,rfl,f⟩:=hx.get n;obtain⟨S,W,rfl,g⟩:=hy.get p;have u:=f _ n;have v:=g _ p;have j:=Zh (OQ (xs:=xs) (ys:=ys) b);clear r f g hx hy hp;generalize E xs ps[k].toNat 0=x at*;generalize E ys ps[k].toNat 0=y at*;by_cases a:x=y
   .have l:(x != y)=false:=by simpa using a
    have d:Hid (kI xs ys (ps.drop k)=kI xs ys (ps.drop (k+1))):=show _=_ by rw[j.o,Qu a]
    clear j a;go_wp2;go_round
    case rel=>exact⟨k+1,by omega,by go_num,show _=_ by rw[m.o,d.o]⟩
    case measure=>simp[intOf];omega
   .have l:(x != y)=true:=by simpa using a
    have d:Hid (jW x y=kI xs ys ps):=show _=_ by rw[m.o,j.o,QC a]
    have q:=adg x y w;clear j a;go_wp2_with fail;refine q.mono ?_;clear q;rintro e X ⟨rfl,rfl⟩;go_wp2;go_ret;exact⟨Qd d.o,rfl⟩
  .have z:Hid (F=kI xs ys ps):=show _=_ by rw[m.o,List.drop_eq_nil_of_le (by omega)];rfl
   go_wp2;go_ret;exact⟨Qd z.o,rfl⟩
def pI(xs ys:List Int)(ps:List Int):Bool:=ps.all λp=>decide (E xs p.toNat 0=E ys p.toNat 0)
def TP(hk:k<N ps)(hp:pI xs ys (ps.take k)=T)(h:E xs ps[k].toNat 0=E ys ps[k].toNat 0):pI xs ys (ps.take (k+1))=true:=by unfold pI at*;rw[Qh hk,List.all_append,hp];simpa using h
theorem Yb(hk:k<N ps)(h:¬E xs ps[k].toNat 0=E ys ps[k].toNat 0):F=pI xs ys ps:=by symm;unfold pI;grind
theorem adh(ao bo po:Option Addr)(ca cb cp:Nat)(xs ys ps:List Int)(w:U)(hx:aA w ao xs)(hy:aA w bo ys)(hp:aA w po ps)(h1:aM ps (N xs)=T)(h2:aM ps (N ys)=T) :
  Cb 80 #[Z ao (N xs) ca,Z bo (N ys) cb,Z po (N ps) cp] w (EP (pI xs ys ps)):=by
 have C:=hp.1;obtain⟨A,B⟩:=aV h1 h2;clear h1 h2;go_enter Tryz.func80,Tryz.ntmps80;go_wp2;go_loopw [7] (λi wr=>∃k:Nat,k<=N ps/\i=I J k/\Hid (pI xs ys (ps.take k)=T)/\∃n,wr=w.drewN n) (λi _=>N ps-(intOf i).toNat)
 case atStart=>exact⟨0,Q4 _,rfl,rfl,0,rfl⟩
 case round=>
  obtain⟨k,K,rfl,q,n,rfl⟩:=hrel;by_cases a:k<N ps
  .obtain⟨L,P,rfl,r⟩:=hp.get a;have t:=r k a;have D:=Qo A.o a;have G:=Qo B.o a;have m:ps[k].toNat<N xs:=by omega
   have p:ps[k].toNat<N ys:=by omega
   obtain⟨Q,R,rfl,e⟩:=hx.get m;obtain⟨S,W,rfl,f⟩:=hy.get p;have u:=e _ m;have v:=f _ p;have g:Hid (E xs ps[k].toNat 0=E ys ps[k].toNat 0->pI xs ys (ps.take (k+1))=T):=λh=>TP a q.o h;have j:Hid (¬E xs ps[k].toNat 0=E ys ps[k].toNat 0->F=pI xs ys ps):=λh=>Yb a h;clear r e f hx hy hp;generalize E xs ps[k].toNat 0=x at*;generalize E ys ps[k].toNat 0=y at*;by_cases b:x=y
   .have l:(x != y)=false:=by simpa using b
    have d:=Zh (g.o b);clear g j b;go_wp2;go_quiet (fail);go_wp2;go_roundw
    case rel=>grind
    case measure=>simp[intOf];omega
   .have l:(x != y)=true:=by simpa using b
    have d:=Zh (j.o b);clear g j b;go_wp2;go_quiet (fail);go_wp2;go_ret;exact⟨Qd d.o,by first|exact Qy (Qy (Qr _ _) _) _|exact Qy (Qr _ _) _⟩
  .have z:Hid (T=pI xs ys ps):=show _=_ by have:=q.o;grind
   go_wp2;go_ret;exact⟨Qd z.o,Qy (Qr _ _) _⟩
theorem adi(c:aF)(ao:Option Addr)(cap:Nat)(xs:List Int)(w:U)(hx:aA w ao xs)(hop:c.op=0∨c.op=1∨c.op=2)(hl:0<=c.left/\c.left<N xs)(hr:c.op=2∨c.const=T∨(0<=c.right/\c.right<N xs)) :
  Cb 81 #[c.val,Z ao (N xs) cap] w (I J (fT c xs)):=by
 have A:=hx.1;obtain⟨b,off,rfl,l⟩:=hx.get (i:=c.left.toNat) (by omega);have u:=Qq (l c.left.toNat (by omega));obtain⟨m,z,left,d,right⟩:=c;unfold aF.val;simp only at hop hl hr u;have B:Hid (fT ⟨m,z,left,d,right⟩ xs=fT ⟨m,z,left,d,right⟩ xs):=rfl;generalize e:fT ⟨m,z,left,d,right⟩ xs=R at*;clear B;unfold fT at e;simp only at e;generalize n:E xs left.toNat 0=L at*;rcases hop with rfl|rfl|rfl
 .cases d
  .have v:0<=right/\right<N xs:=by grind
   have y:=Qq (l right.toNat (by omega));rw[show (if (0:Int)=2∨F=T then right else E xs right.toNat 0)=E xs right.toNat 0 from QC (by simp)]at e;clear hr l hx n;generalize E xs right.toNat 0=Q at*;refine kV L 1073741824 ?_ ?_ <;> intro f p q <;> refine kV Q 1073741824 ?_ ?_ <;> intro g r t <;> refine kV L Q ?_ ?_ <;> intro k C D <;> cases m
   all_goals
    have j:=Zh (X4 e (X4 f (X4 g k)));clear e f g k;go_enter Tryz.func81,Tryz.ntmps81;go_wp2;go_ret;exact⟨Qe (by obtain⟨h,a,b,c⟩:=j.o;rw[<-h];simp[gF,a,b,c] <;> split <;> omega),bJ _ _⟩
  .rw[show (if (0:Int)=2∨T=T then right else E xs right.toNat 0)=right from Qu (by simp)]at e;clear hr l hx n;generalize right=Q at*;refine kV L 1073741824 ?_ ?_ <;> intro f p q <;> refine kV Q 1073741824 ?_ ?_ <;> intro g r t <;> refine kV L Q ?_ ?_ <;> intro k C D <;> cases m
   all_goals
    have j:=Zh (X4 e (X4 f (X4 g k)));clear e f g k;go_enter Tryz.func81,Tryz.ntmps81;go_wp2;go_ret;exact⟨Qe (by obtain⟨h,a,b,c⟩:=j.o;rw[<-h];simp[gF,a,b,c] <;> split <;> omega),bJ _ _⟩
 .cases d
  .have v:0<=right/\right<N xs:=by grind
   have y:=Qq (l right.toNat (by omega));rw[show (if (1:Int)=2∨F=T then right else E xs right.toNat 0)=E xs right.toNat 0 from QC (by simp)]at e;clear hr l hx n;generalize E xs right.toNat 0=Q at*;refine kV L 1073741824 ?_ ?_ <;> intro f p q <;> refine kV Q 1073741824 ?_ ?_ <;> intro g r t <;> by_cases k:L<Q <;> cases m
   all_goals
    have j:=Zh (X4 e (X4 f (X4 g k)));clear e f g;go_enter Tryz.func81,Tryz.ntmps81;go_wp2;go_ret;exact⟨Qe (by obtain⟨h,a,b,c⟩:=j.o;rw[<-h];simp[gF,a,b,c] <;> split <;> omega),bJ _ _⟩
  .rw[show (if (1:Int)=2∨T=T then right else E xs right.toNat 0)=right from Qu (by simp)]at e;clear hr l hx n;generalize right=Q at*;refine kV L 1073741824 ?_ ?_ <;> intro f p q <;> refine kV Q 1073741824 ?_ ?_ <;> intro g r t <;> by_cases k:L<Q <;> cases m
   all_goals
    have j:=Zh (X4 e (X4 f (X4 g k)));clear e f g;go_enter Tryz.func81,Tryz.ntmps81;go_wp2;go_ret;exact⟨Qe (by obtain⟨h,a,b,c⟩:=j.o;rw[<-h];simp[gF,a,b,c] <;> split <;> omega),bJ _ _⟩
 .rw[show (if (2:Int)=2∨d=T then right else E xs right.toNat 0)=right from Qu (by simp)]at e;clear hr l hx n;refine kV L 1073741824 ?_ ?_ <;> intro f p q <;> refine kV right 1073741824 ?_ ?_ <;> intro g r t <;> cases m
  all_goals
   have j:=Zh (X4 e f);clear e f g;go_enter Tryz.func81,Tryz.ntmps81;go_wp2;go_ret;exact⟨Qe (by obtain⟨h,a⟩:=j.o;rw[<-h];simp[gF,a]),bJ _ _⟩
