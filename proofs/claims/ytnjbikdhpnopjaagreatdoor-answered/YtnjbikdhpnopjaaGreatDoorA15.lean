import Derived.Test.YtnjbikdhpnopjaaGreatDoorA12
set_option linter.all false
set_option maxRecDepth 100000
set_option maxHeartbeats 0
namespace Go.Proofs.Zz
open Go.RowKit Go.Shelf
open List renaming length->N
open Go.Value renaming slice->Z,int->I,pointer->Y
open Go.Proofs.Tryz renaming prog->V
open Option renaming some->O
open Go renaming World->U
open Go.World renaming cell?->UK
variable {x0:U}
def nX(w:U)(ao:Option Addr)(ag:List dP):Prop:=
 N ag<=1000000000/\∀i,i<N ag->∃b off,ao=O (aD b off)/\UK w (aD b (off+i*2))=O (I .u64 ((ag.getD i (0,0)).1:Int))/\UK w (aD b (off+i*2+1))=O (I .u64 ((ag.getD i (0,0)).2:Int))
def nX.below{w w':U}(hb:Bw w w'){ao:Option Addr}{ag:List dP}(h:nX w ao ag):nX w' ao ag:=
 ⟨h.1,λi f=>by obtain⟨b,off,e,a,d⟩:=h.2 i f;exact⟨b,off,e,cB hb a,cB hb d⟩⟩
section
variable {ts:List ah} {q:af} {s:Nat} {Fq:Nat->Prop} {w:U} {gb:Nat} {os:List ae} {hd:Option Nat}
def UB(h:jW ts q s Fq w gb os hd)(hx0:Bw w x0)(gc:Nat) :
  Calls V 183 #[Z (O (aD gb 0)) (N os) gc] x0 λe w'=>∃(v:Value) (xs:List Nat),e=.returned v/\N xs<=20/\w'.ownsRow x0.heap.size 95 1 v (N xs) (xs.map λx=>Value.pointer (O (aD x 0)))/\(∀x∈xs,∃t,dI Fq w x t/\Pc ts q s t)/\Bw x0 w':=by
 have HG:=Zh h;have hf:=h.few;have i:=Zh hx0;clear h hx0;go_enter Tryz.func183,Tryz.ntmps183;go_wp2;go_loopw [3,8] (λpv R wr=>∃(k:Nat) (xs:List Nat),k<=N os/\R=I .i64 (k:Int)/\N xs<=k/\Hid (wr.ownsRow x0.heap.size 95 1 pv (N xs) (xs.map λx=>Value.pointer (O (aD x 0)))/\(∀x∈xs,∃t,dI Fq w x t/\Pc ts q s t)/\Bw x0 wr)) (λ_ R _=>N os-(intOf R).toNat)
 case atStart=>exact⟨0,[],QW _,rfl,Qn _,Zk _ _ _ _,(λx hx=>by cases hx),Qm _ _⟩
 case round=>
  obtain⟨k,xs,hk,rfl,aa,d⟩:=hrel;obtain⟨A,xm,B,rfl⟩:=Zc d.o.1;by_cases S:k<N os
  .obtain⟨D,-,v,W,hv⟩:=HG.o.cells S;have D:=cB (az i.o d.o.2.2) D;have W:=cB (az i.o d.o.2.2) W;generalize os.getD k eU=ov at*;obtain⟨oa,oc,ox⟩:=ov;simp only[ae.val]at D;rcases hv with⟨rfl,-⟩|⟨x,t,rfl,ht,hp,-⟩
   .have X:Hid (∀o,(wr.alloc o).ownsRow x0.heap.size 95 1 (Z A xm B) (N xs) (xs.map λx=>Value.pointer (O (aD x 0)))/\Bw x0 (wr.alloc o)):=λo=>⟨XU d.o.1 (dN _ _),az d.o.2.2 (dN _ _)⟩
    go_wp2;go_roundw
    case rel=>exact⟨k+1,xs,by omega,by go_num,by omega,(X.o _).1,d.o.2.1,(X.o _).2⟩
    case measure=>simp[intOf];omega
   .obtain⟨C,G,n,r⟩:=aL wr #[Z oa (N ox) oc,Y (O (aD x 0))] 177;have j:=az d.o.2.2 n;have f:=XU d.o.1 n;obtain⟨ya,yc,g,u,-⟩:=xR f (by omega);simp only[Value.slice.injEq]at g;obtain⟨rfl,rfl,rfl⟩:=g;have d1:=r.at 1;have l:∀a,(∃t,dI Fq w a t/\Pc ts q s t)->∃c t,C.heap[a]? = O (Obj.cells c t (0,0)):=λa ⟨t,e,_⟩=>(e.below (az i.o j)).blk.imp λ_ h=>⟨_,h⟩
    have p:=FT A B xs x C u (l x ⟨t,ht,hp⟩) (λa ha=>l _ (d.o.2.1 a ha));obtain⟨v',K,L,yK,z,⟨za,zm,zc,rfl⟩,-⟩:=TJ C x0.heap.size (Z A (N xs) B) xs f (by omega) j.size x 103;obtain⟨P,Q⟩:=aJ f j;have HF:Hid (K.ownsRow x0.heap.size 95 1 (Z za zm zc) (N (xs++[x])) ((xs++[x]).map λx=>Value.pointer (O (aD x 0)))/\(∀y∈xs++[x],∃t,dI Fq w y t/\Pc ts q s t)/\Bw x0 K):=⟨yK,λy g=>by
     rcases Zi.1 g with g|g
     .exact d.o.2.1 y g
     .rw[Zg]at g;rw[g];exact⟨t,ht,hp⟩,j.trans (z.below j.size (λb j e=>by have:=(Zb f e).1;omega))⟩
    clear l u f n j yK z r ht hp;generalize decide (x∈xs)=bb at*;go_wp2_with fail;refine p.mono ?_;rintro e w4 ⟨rfl,m⟩;have m:=m.symm;subst m;clear p G;cases bb
    .go_wp2_with (first|(at_builtin;refine Xm rfl (.tmp 22) (.tmp 25) 103 rfl (Z A (N xs) B) (Z (O (aD C.heap.size 0)) 1 1) (Z za zm zc) K rfl rfl L ?_));clear L;go_wp2;go_roundw
     case rel=>exact⟨k+1,xs++[x],by omega,by go_num,by simp;omega,HF.o⟩
     case measure=>simp[intOf];omega
    .clear L;go_wp2;go_roundw
     case rel=>exact⟨k+1,xs,by omega,by go_num,by omega,P.o,d.o.2.1,Q.o⟩
     case measure=>simp[intOf];omega
  .go_wp2;go_ret;exact⟨_,xs,rfl,by omega,d.o⟩
def PtW(Fq:Nat->Prop)(w:U)(P:dH->Prop)(po:Option Addr):Prop:=po=none∨∃a t,po=O (aD a 0)/\dI Fq w a t/\P t
end
section
variable {ts:List ah} {q:af} {s:Nat} {Fq:Nat->Prop} {w:U} {gb:Nat} {os:List ae} {hd:Option Nat}
theorem YF(h:jW ts q s Fq w gb os hd)(hx0:Bw w x0)(gc:Nat)(gU:Int) :
  Calls V 216 #[Z (O (aD gb 0)) (N os) gc,I .i64 gU] x0 λe w'=>∃po,e=.returned (Y po)/\PtW Fq w (λt=>Pc ts q s t/\aQ t.d.order [gU]=true) po/\Bw x0 w':=by
 have g:=UB h hx0 gc;have L:=Zh hx0;clear h hx0;go_enter Tryz.func216,Tryz.ntmps216;go_wp2_with fail;refine g.mono ?_;rintro e w1 ⟨v1,xs,rfl,hl,l,m,n⟩;clear g;obtain⟨xa,xc,rfl,u,-⟩:=xR l (by omega);obtain⟨Q,HX,v⟩:=dQ u m n;clear l u n m;go_wp2;go_loopw [5,11] (λpv X wr=>∃(k:Nat) (po:Option Addr),k<=N xs/\X=I .i64 (k:Int)/\pv=Y po/\Hid (PtW Fq w (λt=>Pc ts q s t/\aQ t.d.order [gU]=true) po)/\Hid (Bw w1 wr)) (λ_ X _=>N xs-(intOf X).toNat)
 case atStart=>exact⟨0,none,QW _,rfl,rfl,.inl rfl,Qm _ _⟩
 case round=>
  obtain⟨k,po,hk,rfl,rfl,D,G⟩:=hrel;by_cases f:k<N xs
  .obtain⟨bb,TK,rfl,z⟩:=dA.get (Q.o.below G.o) f;have aa:=z k f;obtain⟨t,R,A⟩:=HX.o _ (Xl (d:=0) f);generalize xs.getD k 0=x at*;have b:=az L.o (az v.o G.o);obtain⟨p,B,Dw⟩:=(R.below b).nW;have Bh:Hid (∀y c,Bw wr y->UK y (aD c 0)=O (I .i64 gU)->Cb 164 #[Z p.order.ad (N p.order.xs) p.order.cap,Z (O (aD c 0)) 1 1] y (.bool (aQ p.order.xs [gU]))):=λy c hy hc=>
    lI _ (O (aD c 0)) _ 1 _ [gU] y (Qo hy B.ok.order) ⟨by simp,λi hi=>⟨c,0,rfl,by grind⟩⟩ B.ok.cap
   have c3:UK wr (aD x 3)=O (Z p.order.ad (N p.order.xs) p.order.cap):=B.c3;have c5:=B.c5;have HY:Hid (aQ p.order.xs [gU]=true->PtW Fq w (λt=>Pc ts q s t/\aQ t.d.order [gU]=true) (O (aD x 0))):=λe=>.inr ⟨x,t,rfl,R,A,(congrArg bN.order Dw) ▸ e⟩;generalize N p.order.xs=pol at*;generalize p.order.ad=poa at*;generalize p.order.cap=poc at*;generalize aQ p.order.xs [gU]=SB at*;generalize p.cost=cx at*;clear z B Dw R A p;obtain⟨wq,S⟩:∃x,x=wr:=⟨_,rfl⟩;subst S;have hz:po=none∨∃r P:Nat,po=O (aD r 0)/\UK wq (aD r 5)=O (I .u64 (P:Int)):=D.o.imp id λ⟨r,t0,e,hr,_⟩=>by obtain⟨pr,W,-⟩:=(hr.below b).nW;exact⟨r,_,e,W.c5⟩
   have HZ:=Zh hz;clear b hz;go_wp2_with fail;refine wH wq λa=>?_;refine wA6 0 a ?_;refine wR 6 λK C=>?_;go_simp;refine oA C a λa=>?_;clear C K;refine wR 7 λK C=>?_;go_simp;refine XX (Bh.o _ _ a (by simp)) ?_;rintro e w2 ⟨rfl,hb⟩;refine oT C a hb λa=>?_;clear C K hb Bh;have j:=Zh (az G.o a);refine sN 8 a ?_;cases SB
   .refine wS9 9 a ?_;refine wS6 18 a ?_;refine sN 24 a ?_;refine wD ?_;clear a;go_wp2;go_roundw
    case rel=>exact⟨k+1,po,by omega,by go_num,rfl,D.o,j.o⟩
    case measure=>simp[intOf];omega
   rcases HZ.o with rfl|⟨r,P,rfl,c6⟩
   rotate_left
   rcases XV cx P with hc|hc
   all_goals refine wB3 9 a ?_
   refine wB9 12 a ?_;refine wB2 21 a ?_
   rotate_left
   refine wB9 12 a ?_;refine wB2 21 a ?_
   rotate_left
   refine wS9 12 a ?_;refine wS2 21 a ?_
   all_goals
    refine wB1 23 a ?_;refine sN 24 a ?_;refine wD ?_;clear a;go_wp2;go_roundw
    case rel=>exact⟨k+1,_,by omega,by go_num,rfl,by first|exact HY.o rfl|exact D.o,j.o⟩
    case measure=>simp[intOf];omega
  .go_wp2;go_ret;exact⟨_,rfl,D.o,az v.o G.o⟩
end
