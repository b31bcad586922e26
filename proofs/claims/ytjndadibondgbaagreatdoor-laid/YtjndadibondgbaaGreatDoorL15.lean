import Derived.Test.YtjndadibondgbaaGreatDoorL13
set_option linter.all false
set_option maxRecDepth 100000
set_option maxHeartbeats 16000000
namespace Go.Proofs.Zz
open Go.RowKit Go.Shelf
variable {i s:Nat} {ts:List af} {q:ae}
def zV(k:Int):Int:=if k=0∨k=1 then 0 else if 3<=k/\k<=5 then 2 else 1
def gW(k:Int):Array Value:=#[.int .i64 (zV k),.bool (decide (k=1)),.bool (decide (2<=k/\k<=5)),.bool (decide (k=4∨k=5)),.bool (decide (k=6))]
def lY:List Value:=(List.range 11).flatMap fun (k:Nat)=>(gW (k:Int)).toList
def eG(w:World)(g:Nat):Prop:=∀ j u,lY[j]? = some u->w.cell? (aD g j)=some u
theorem eG.below{w w':World}{g:Nat}(hb:Bw w w')(h:eG w g):eG w' g:=fun j u a=>cB hb (h j u a)
theorem eG.get{w:World}{g:Nat}(h:eG w g){k:Nat}(hk:k<=10) :
  w.cell? (aD g (0+k*5))=some (.int .i64 (zV k))/\w.cell? (aD g (0+k*5+1))=some (.bool (decide ((k:Int)=1)))/\w.cell? (aD g (0+k*5+2))=some (.bool (decide (2<=(k:Int)/\(k:Int)<=5)))/\
   w.cell? (aD g (0+k*5+3))=some (.bool (decide ((k:Int)=4∨(k:Int)=5)))/\w.cell? (aD g (0+k*5+4))=some (.bool (decide ((k:Int)=6))):=by
 have a:∀ j,j<5->lY[k*5+j]? = (gW (k:Int)).toList[j]?:=fun j b=>by
  have:=flat_get (fun (k:Nat)=>(gW (k:Int)).toList) 5 (fun _=>rfl) 0 (List.range 11) k j (by simp; omega) b;unfold lY;rw[this];simp[List.getD,show k<11 by omega]
 simp only[QJ];refine⟨h (k*5) _ ?_,h (k*5+1) _ ?_,h (k*5+2) _ ?_,h (k*5+3) _ ?_,h (k*5+4) _ ?_⟩
 ·have:=a 0 (by omega); rw[Xg]at this; rw[this]; rfl
 ·rw[a 1 (by omega)]; rfl
 ·rw[a 2 (by omega)]; rfl
 ·rw[a 3 (by omega)]; rfl
 ·rw[a 4 (by omega)]; rfl
theorem xA{k:Int}(h1:1<=k):zV k=(arity k:Int):=by
 unfold zV arity;by_cases h:k=1
 ·rw[Qu (.inr h),Qu h]; rfl
 ·rw[Qv (by omega),Qv h];split <;> rfl
def aJ(n:ah):List Int:=[n.l,n.r].take (arity n.kind)
theorem zW(n:ah)(w:World)(hs:eG w 0)(h1:1<=n.kind)(h10:n.kind<=10) :
  Calls Tryz.prog 58 #[.agg n.cells] w fun e w'=>∃ b,e=.returned (.slice (some (aD b 0)) (aJ n).length 2)/\aI w' (some (aD b 0)) (aJ n)/\w.heap.size<=b/\Bw w w':=by
 obtain⟨f,H,g,u⟩:=aR w n.cells 36;obtain⟨I,J,L⟩:=u.k3;have d:Hid (aJ n=[n.l,n.r].take (arity n.kind)):=rfl;have p:=Zh (xA h1);have q:Hid (arity n.kind<=2):=by show _<=_; unfold arity; split <;> (try split) <;> omega
 have s:Hid (∀ k:Nat,k<=10->_):=fun k Q=>(hs.below g).get Q
 have y:=Zh g;generalize n.cells=NC at *;generalize aJ n=IL at *;obtain⟨M,i,j,ns,N,O,P⟩:=n;simp only at *;obtain⟨k,rfl⟩:=Jh (show 0<=M by omega);obtain⟨v,-⟩:=s.o k (by omega);rw[p.o]at v;have z:k<=10:=by omega
 have B:1<=k:=by omega
 generalize arity (k:Int)=ar at *;have C:=q.o;have D:Hid (∀ x:World,aI (x.alloc (.cells #[.int .i64 i,.int .i64 j] 3)) (some (aD x.heap.size 0)) [i,j]):=fun x=>yh x [i,j] _ (by simp)
 rw[QJ]at v;have E:¬ (11:Int)<=(k:Int):=by omega
 have A:(ar:Int)<=2:=by omega
 go_enter Tryz.func58,Tryz.ntmps58;go_wp2;refine wH f fun a=>?_
 refine wt 0 (.pointer (some (aD w.heap.size 1))) a ?_;refine nN 1 (.int .i64 i) a J ?_;refine wt 2 (.pointer (some (aD w.heap.size 2))) a ?_;refine nN 3 (.int .i64 j) a L ?_;refine wt 5 (.pointer (some (aD w.heap.size 0))) a ?_;refine nN 6 (.int .i64 (k:Int)) a I ?_;refine wt 7 (.pointer (some (aD 0 (k*5)))) a ?_;refine wt 8 (.pointer (some (aD 0 (k*5)))) a ?_;refine nN 9 (.int .i64 (ar:Int)) a v ?_;refine wR 4 fun K m=>?_
 go_simp;refine oA m a fun a=>?_
 refine wR 10 fun K m=>?_
 go_simp;refine m.o _ _ a fun a=>?_
 refine wR 11 fun K m=>?_
 go_simp;refine m.o _ _ a fun a=>?_
 refine wD ?_
 try simp only[pU]
 have F:=Zh (aC y.o a);have G:Hid (aI ((f.alloc (.cells #[.int .i64 i,.int .i64 j] 3)).drew) (some (aD f.heap.size 0)) (IL)):=by
  show aI _ _ _
  rw[d.o];exact aI.take (D.o f.drew) ar
 have t:Hid (IL.length=ar):=by show _=_; rw[d.o,XF]; simp; omega
 go_wp2;go_ret;exact⟨f.heap.size,by rw[t.o]; rfl,G.o,y.o.size,F.o⟩
def Jv:=@eG.below
theorem aau(p:aB):p.cells=#[.int .i64 p.kind,.int .u64 (p.sources:Int),.int .u64 (p.clauses:Int),p.order.val,.int .u64 (p.size:Int),.int .u64 (p.cost:Int)]:=rfl
theorem adP(k:Int)(l r s:Nat):uh k l r s<=bB:=by
 unfold uh
 repeat' split
 ·exact zA _
 ·exact zA _
 ·exact uX _ _
theorem Uv(p:aB)(ao:Option Addr)(cap:Nat)(ps:List aB)(w:World)(hp:PartsAt w ao ps)(hz:p.size<=bB)(h1:p.kind≠1->0<ps.length)(h2:3<=p.kind->p.kind<=5->1<ps.length) :
  Cb 100 #[.agg p.cells,.slice ao ps.length cap] w (.int .u64 (fU p.kind p.size (ps.getD 0 aT).cost (ps.getD 0 aT).size (ps.getD 1 aT).cost (ps.getD 1 aT).size:Nat)):=by
 obtain⟨H,ak,N,O⟩:=aR w p.cells 75;have i:=N;have cK:=O;have bD:=cK.at 0;have bO:=cK.at 4;have HC:=Zh i;generalize ay:p.cells=PC at *;clear ay;by_cases U:p.kind=1
 ·have g:Hid (fU p.kind p.size (ps.getD 0 aT).cost (ps.getD 0 aT).size (ps.getD 1 aT).cost (ps.getD 1 aT).size=iN [p.size,1]):=by show _=_; unfold fU; rw[Qu U]
  generalize fU p.kind p.size (ps.getD 0 aT).cost (ps.getD 0 aT).size (ps.getD 1 aT).cost (ps.getD 1 aT).size=R at *;have a:=ajb H p.size 1 hz (by unfold bB; omega);rw[<- g.o]at a;have kb:(p.kind==1)=true:=by simp[U]
  clear g U h1 h2 hz O cK N i hp;generalize p.kind=k at *;generalize p.size=s at *;go_enter Tryz.func100,Tryz.ntmps100;go_wp2_with fail;refine a.mono ?_;clear a;rintro e w2 ⟨rfl,ag⟩;have t:=Zh (aC HC.o ag);clear ag;go_wp2;go_ret;exact⟨rfl,t.o⟩
 have aj:=h1 U;have az:=hp.1;obtain⟨⟨W,po,rfl,c0,c1,c2,c3,c4,c5⟩,hl⟩:=hp.2 0 aj;rw[QI,Xg]at c0 c1 c2 c3 c4 c5;have Y:Hid (1<ps.length->w.cell? (aD W (po+6))=some (.int .i64 (ps.getD 1 aT).kind)/\w.cell? (aD W (po+6+1))=some (.int .u64 ((ps.getD 1 aT).sources:Int))/\
  w.cell? (aD W (po+6+2))=some (.int .u64 ((ps.getD 1 aT).clauses:Int))/\w.cell? (aD W (po+6+3))=some (ps.getD 1 aT).order.val/\
  w.cell? (aD W (po+6+4))=some (.int .u64 ((ps.getD 1 aT).size:Int))/\w.cell? (aD W (po+6+5))=some (.int .u64 ((ps.getD 1 aT).cost:Int))/\(ps.getD 1 aT).size<=bB/\(ps.getD 1 aT).cost<=bB):=fun h=>by
  obtain⟨⟨b',o',e,d0,d1,d2,d3,d4,d5⟩,hr⟩:=hp.2 1 h
  cases e
  rw[Z9]at d0 d1 d2 d3 d4 d5;exact⟨d0,d1,d2,d3,d4,d5,hr.size,hr.cost⟩
 have j:=hl.size;have q:=hl.cost;obtain⟨R,hR⟩:=eY (fU p.kind p.size (ps.getD 0 aT).cost (ps.getD 0 aT).size (ps.getD 1 aT).cost (ps.getD 1 aT).size)
 rw[<- hR];unfold fU at hR;rw[Qv U]at hR;have g:=Zh hR;clear hR;have u:=h2;clear hp hl h1 h2 O cK;generalize p.kind=k at *;generalize p.size=s at *;generalize ps.getD 0 aT=l at *;generalize ps.getD 1 aT=r at *;obtain⟨lk,ls,Gv,⟨la,JR,lx⟩,n,C⟩:=l;obtain⟨rk,rs,au,⟨ra,av,rx⟩,P,rc⟩:=r;unfold aa.val at *;simp only at *;obtain⟨w2,ax,D,Q⟩:=aR H #[.int .i64 lk,.int .u64 (ls:Int),.int .u64 (Gv:Int),.slice la lx.length JR,.int .u64 (n:Int),.int .u64 (C:Int)] 75;have d0:=cB i c0;have d1:=cB i c1;have d2:=cB i c2;have d3:=cB i c3;have d4:=cB i c4;have d5:=cB i c5;have m0:=cB D bD;have m4:=cB D bO;have l4:=Q.at 4;have l5:=Q.at 5;have Z:=Zh (aC HC.o D);have aA:(k==1)=false:=by simp[U]
 clear c0 c1 c2 c3 c4 c5 Q N i D U;go_enter Tryz.func100,Tryz.ntmps100;go_wp2;refine QA (by kernel_rfl) (by kernel_rfl) ?_;refine qS (.pointer (some (aD H.heap.size 4))) ?_;refine qC (.int .u64 (n:Int)) l4 ?_;refine qS (.pointer (some (aD w.heap.size 4))) ?_;refine qC (.int .u64 (s:Int)) m4 ?_;refine qS (.int .u64 (n:Int)) ?_;refine qS (.int .u64 (s:Int)) ?_;refine XY ?_;intro y F;have n0:=cB F m0;have n5:=cB F l5;have z:=Zh (aC Z.o F);have A:Hid (1<ps.length->_):=fun h=>Y.o h
 clear ak ax m0 m4 l4 l5 F d0 d1 d2 d3 d4 d5 bD bO Y HC Z;by_cases V:k=3∨k=4∨k=5
 ·rw[Qu V]at g;obtain⟨q0,q1,q2,q3,q4,q5,ah,ai⟩:=A.o (u (by omega) (by omega));have e0:=cB z.o q0;have e1:=cB z.o q1;have e2:=cB z.o q2;have e3:=cB z.o q3;have e4:=cB z.o q4;have e5:=cB z.o q5;have aF:=u (by omega) (by omega);obtain⟨w4,aL,E,S⟩:=aR y #[.int .i64 rk,.int .u64 (rs:Int),.int .u64 (au:Int),.slice ra rx.length av,.int .u64 (P:Int),.int .u64 (rc:Int)] 75;have r4:=S.at 4;have r5:=S.at 5;have t0:=cB E n0;have t5:=cB E n5;have I:=Zh (aC z.o E);have J:Hid (∀ x,_):=fun x=>KW k n P s x j ah hz
  have v:Hid (uh k n P s<=bB):=adP _ _ _ _;have Vv:Hid (∀ (x:World) (m:Nat),m<=bB->_):=fun x m hm=>ajc x C rc m q ai hm
  generalize uh k n P s=wk at *;clear q0 q1 q2 q3 q4 q5 E S u A j q ah ai hz;have G:=Zh V;clear V;rcases G.o with h | h | h
  ·subst h;clear G;go_wp2;refine wH w4 fun a=>?_
   refine wt 0 (.pointer (some (aD H.heap.size 5))) a ?_;refine nN 1 (.int .u64 (C:Int)) a t5 ?_;refine wt 2 (.pointer (some (aD y.heap.size 5))) a ?_;refine nN 3 (.int .u64 (rc:Int)) a r5 ?_;refine wt 4 (.pointer (some (aD w.heap.size 0))) a ?_;refine nN 5 (.int .i64 3) a t0 ?_;refine wt 6 (.int .u64 (n:Int)) a ?_;refine wt 7 (.pointer (some (aD y.heap.size 4))) a ?_;refine nN 8 (.int .u64 (P:Int)) a r4 ?_;refine wt 9 (.int .u64 (s:Int)) a ?_;refine wR 10 fun K b=>?_
   go_simp;refine Jj (J.o _) ?_;rintro e T ⟨rfl,d⟩;refine oT b a d fun a=>?_
   clear b K;refine wR 11 fun K b=>?_
   go_simp;refine oA b a fun a=>?_
   clear b K;refine wR 12 fun K b=>?_
   go_simp;refine Jj (Vv.o T wk v.o) ?_;rintro e w6 ⟨rfl,f⟩;refine b.o _ _ ((Below.trans (((Qr _ _).drew).trans (d.mono (by simp))) (f.mono (by have:=d.size; simp at this; omega)))) (fun a=>?_);clear b K;refine wR 13 fun K b=>?_
   go_simp;refine b.o _ _ a fun a=>?_
   clear b K;refine wD ?_
   try simp only[pU]
   have t:=Zh (aC I.o a);rw[<- g.o];clear a d f g;go_wp2;go_ret;exact⟨rfl,t.o⟩
  ·subst h;clear G;go_wp2;refine wH w4 fun a=>?_
   refine wt 0 (.pointer (some (aD H.heap.size 5))) a ?_;refine nN 1 (.int .u64 (C:Int)) a t5 ?_;refine wt 2 (.pointer (some (aD y.heap.size 5))) a ?_;refine nN 3 (.int .u64 (rc:Int)) a r5 ?_;refine wt 4 (.pointer (some (aD w.heap.size 0))) a ?_;refine nN 5 (.int .i64 4) a t0 ?_;refine wt 6 (.int .u64 (n:Int)) a ?_;refine wt 7 (.pointer (some (aD y.heap.size 4))) a ?_;refine nN 8 (.int .u64 (P:Int)) a r4 ?_;refine wt 9 (.int .u64 (s:Int)) a ?_;refine wR 10 fun K b=>?_
   go_simp;refine Jj (J.o _) ?_;rintro e T ⟨rfl,d⟩;refine oT b a d fun a=>?_
   clear b K;refine wR 11 fun K b=>?_
   go_simp;refine oA b a fun a=>?_
   clear b K;refine wR 12 fun K b=>?_
   go_simp;refine Jj (Vv.o T wk v.o) ?_;rintro e w6 ⟨rfl,f⟩;refine b.o _ _ ((Below.trans (((Qr _ _).drew).trans (d.mono (by simp))) (f.mono (by have:=d.size; simp at this; omega)))) (fun a=>?_);clear b K;refine wR 13 fun K b=>?_
   go_simp;refine b.o _ _ a fun a=>?_
   clear b K;refine wD ?_
   try simp only[pU]
   have t:=Zh (aC I.o a);rw[<- g.o];clear a d f g;go_wp2;go_ret;exact⟨rfl,t.o⟩
  ·subst h;clear G;go_wp2;refine wH w4 fun a=>?_
   refine wt 0 (.pointer (some (aD H.heap.size 5))) a ?_;refine nN 1 (.int .u64 (C:Int)) a t5 ?_;refine wt 2 (.pointer (some (aD y.heap.size 5))) a ?_;refine nN 3 (.int .u64 (rc:Int)) a r5 ?_;refine wt 4 (.pointer (some (aD w.heap.size 0))) a ?_;refine nN 5 (.int .i64 5) a t0 ?_;refine wt 6 (.int .u64 (n:Int)) a ?_;refine wt 7 (.pointer (some (aD y.heap.size 4))) a ?_;refine nN 8 (.int .u64 (P:Int)) a r4 ?_;refine wt 9 (.int .u64 (s:Int)) a ?_;refine wR 10 fun K b=>?_
   go_simp;refine Jj (J.o _) ?_;rintro e T ⟨rfl,d⟩;refine oT b a d fun a=>?_
   clear b K;refine wR 11 fun K b=>?_
   go_simp;refine oA b a fun a=>?_
   clear b K;refine wR 12 fun K b=>?_
   go_simp;refine Jj (Vv.o T wk v.o) ?_;rintro e w6 ⟨rfl,f⟩;refine b.o _ _ ((Below.trans (((Qr _ _).drew).trans (d.mono (by simp))) (f.mono (by have:=d.size; simp at this; omega)))) (fun a=>?_);clear b K;refine wR 13 fun K b=>?_
   go_simp;refine b.o _ _ a fun a=>?_
   clear b K;refine wD ?_
   try simp only[pU]
   have t:=Zh (aC I.o a);rw[<- g.o];clear a d f g;go_wp2;go_ret;exact⟨rfl,t.o⟩
 rw[Qv V]at g;have aG:(k==3)=false:=by simp; omega
 have aH:(k==4)=false:=by simp; omega
 have aI:(k==5)=false:=by simp; omega
 by_cases X:k=6∨k=10
 ·rw[Qu X]at g;have ae:Hid (∀ x,_):=fun x=>KX n x j
  have v:Hid (bP n (kU n+1)<=bB):=uX _ _;have af:Hid (∀ (x:World) (m:Nat),m<=bB->_):=fun x m hm=>ajb x C m q hm
  generalize bP n (kU n+1)=wk at *;clear u A j q hz V;have G:=Zh X;clear X;rcases G.o with h | h
  ·subst h;clear G;go_wp2;refine wH y fun a=>?_
   refine wt 0 (.pointer (some (aD H.heap.size 5))) a ?_;refine nN 1 (.int .u64 (C:Int)) a n5 ?_;refine wt 2 (.int .u64 (n:Int)) a ?_;refine wR 3 fun K b=>?_
   go_simp;refine Jj (ae.o _) ?_;rintro e T ⟨rfl,rfl⟩;refine b.o _ _ a fun a=>?_
   clear b K;refine wR 4 fun K b=>?_
   go_simp;refine oA b a fun a=>?_
   clear b K;refine wR 5 fun K b=>?_
   go_simp;refine Jj (af.o y.drew wk v.o) ?_;rintro e w6 ⟨rfl,f⟩;refine b.o _ _ ((((Qr _ _).drew).trans (f.mono (by simp)))) (fun a=>?_);clear b K;refine wR 6 fun K b=>?_
   go_simp;refine b.o _ _ a fun a=>?_
   clear b K;refine wD ?_
   try simp only[pU]
   have t:=Zh (aC z.o a);rw[<- g.o];clear a f g;go_wp2;go_ret;exact⟨rfl,t.o⟩
  ·subst h;clear G;go_wp2;refine wH y fun a=>?_
   refine wt 0 (.pointer (some (aD H.heap.size 5))) a ?_;refine nN 1 (.int .u64 (C:Int)) a n5 ?_;refine wt 2 (.int .u64 (n:Int)) a ?_;refine wR 3 fun K b=>?_
   go_simp;refine Jj (ae.o _) ?_;rintro e T ⟨rfl,rfl⟩;refine b.o _ _ a fun a=>?_
   clear b K;refine wR 4 fun K b=>?_
   go_simp;refine oA b a fun a=>?_
   clear b K;refine wR 5 fun K b=>?_
   go_simp;refine Jj (af.o y.drew wk v.o) ?_;rintro e w6 ⟨rfl,f⟩;refine b.o _ _ ((((Qr _ _).drew).trans (f.mono (by simp)))) (fun a=>?_);clear b K;refine wR 6 fun K b=>?_
   go_simp;refine b.o _ _ a fun a=>?_
   clear b K;refine wD ?_
   try simp only[pU]
   have t:=Zh (aC z.o a);rw[<- g.o];clear a f g;go_wp2;go_ret;exact⟨rfl,t.o⟩
 rw[Qv X]at g;have TS:(k==6)=false:=by simp; omega
 have aJ:(k==10)=false:=by simp; omega
 by_cases k7:k=7
 ·rw[Qu k7]at g;subst k7;have L:=ajc y C n n q j j;rw[<- g.o]at L;clear u A j q hz V X g;go_wp2_with fail;refine L.mono ?_;clear L;rintro e w4 ⟨rfl,B⟩;have t:=Zh (aC z.o B);clear B;go_wp2;go_ret;exact⟨rfl,t.o⟩
 rw[Qv k7]at g;have aK:(k==7)=false:=by simp; omega
 have M:=ajb y C n q j;rw[<- g.o]at M;clear u A j q hz V X k7 g;go_wp2_with fail;refine M.mono ?_;clear M;rintro e w4 ⟨rfl,B⟩;have t:=Zh (aC z.o B);clear B;go_wp2;go_ret;exact⟨rfl,t.o⟩
theorem JS{n:Nat}(h:s<2 ^ n)(hi:i∈cu s):i<n:=by
 unfold cu at hi;have b:=(Xl.1 hi).2;rcases Ql i n with a | a
 ·exact a
 ·have:=Nat.testBit_lt_two_pow (QT h (Z7 (by omega) a));rw[this]at b
  cases b
theorem BK{l:List Int}(h:jo ts q l s=true):aP q.wh.length l:=fun x g=>by
 unfold jo at h;rw[Qp]at h;have b:∀ i,i<l.length->(if i=0 then -1 else l.getD (i-1) 0)<l.getD i 0/\l.getD i 0<q.wh.length:=fun i a=>by
  have:=h i (Xm.2 a);rw[Qo,Qo,QE,QE]at this;exact this.1
 have d:∀ i,i<l.length->0<=l.getD i 0:=by
  intro i
  induction i with
  | zero => intro a; have:=(b 0 a).1; rw[Qu rfl]at this; omega
  | succ i ih =>
   intro a;have:=(b (i+1) a).1;rw[Qv (by omega),Xq]at this;have:=ih (by omega);omega
 obtain⟨i,a,e⟩:=Qx g;have f:l.getD i 0=x:=by rw[<- e]; simp[List.getD,a]
 rw[<- f];exact⟨d i a,(b i a).2⟩
theorem uP(g:Nat->Nat):∀ (l:List Nat) (m:Nat),l.foldl (fun x c=>x / g c) m<=m
 | [],m => Qs _
 | a::l,m => by
  rw[Z0];exact QS (uP g l _) (Nat.div_le_self _ _)
theorem adQ(ts:List af)(q:ae)(s c:Nat):jS ts q s c<=bB:=by
 unfold jS;have a:=oD ((cu s).map fun (k:Nat)=>jm ts q.src.xs (k:Int)) 1 (by unfold bB; omega);split
 ·exact Zf _
 ·have:=uP (fun c=>jf ts q.src.xs (q.wh.getD c lz).cs) (cu c) (((cu s).map fun (k:Nat)=>jm ts q.src.xs (k:Int)).foldl bP 1);rw[Nat.max_def];split
  ·unfold bB; omega
  ·exact QS this a
theorem adR(k:Int)(s lc ls rc rs:Nat):fU k s lc ls rc rs<=bB:=by
 unfold fU
 repeat' split
 all_goals exact zA _
theorem Ux{n:ah}{l r:bZ}(hs:dH n i=true)(hf:bJ ts q n l r=true):aP q.wh.length n.cl.xs/\(n.kind=1->0<=n.source/\n.source<q.src.xs.length):=by
 have a:jT n=true:=by
  unfold dH at hs;simp only[Qo]at hs;exact hs.1.1.2
 have g:(n.kind=2∨3<=n.kind/\n.kind<=5)∨n.cl.xs=[]:=by
  unfold jT at a;rw[QE]at a;rcases a.2.2.2.2.1 with h | h | h
  ·exact .inl (.inl h)
  ·exact .inl (.inr h)
  ·exact .inr (Xy.1 h)
 unfold bJ at hf;constructor
 ·rcases g with h | h
  ·rw[Qv (by omega)]at hf;by_cases d:n.kind=2
   ·rw[Qu d,Qo]at hf;exact BK hf.2
   rw[Qv d]at hf;have b:jJ ts q n l.sources r.sources=true:=by
    by_cases e:n.kind=3
    ·rw[Qu e]at hf; exact hf
    rw[Qv e]at hf;by_cases f:n.kind=4
    ·rw[Qu f,Qo]at hf; exact hf.2
    rw[Qv f,Qu (by omega)]at hf;simp only[Qo]at hf;exact hf.1.1.2
   unfold jJ at b;rw[Qo]at b;exact BK b.2
  ·rw[h];exact fun x k=>by cases k
 ·intro j;rw[Qu j,Qo,QE,QE]at hf;exact hf
section
def uQ(s k:Nat):List Nat:=(List.range k).filter fun i=>s.testBit i
theorem Pv(s k:Nat):uQ s (k+1)=uQ s k++if s.testBit k=true then [k] else []:=by
 unfold uQ;rw[Xa,Zi]
 cases h:s.testBit k <;> simp[h]
theorem Uy(s:Nat){k:Nat}(hk:k<=64):uQ s k <+: cu s:=by
 have e:List.range 64=List.range k++(List.range (64-k)).map (k + ·):=by
  rw[<- List.range_add];congr 1;omega
 unfold uQ cu;rw[e,Zi];exact List.prefix_append _ _
theorem Uz(s:Nat){k:Nat}(hk:k<=64)(h:s / 2 ^ k=0):uQ s k=cu s:=by
 symm;refine yP hk _ (fun i d=>?_);have b:s<2 ^ k:=by
  rcases Ql s (2 ^ k) with a | a
  ·exact a
  ·have:=Nat.div_pos a (Nat.pow_pos (by omega));omega
 exact Nat.testBit_lt_two_pow (QT b (Z7 (by omega) d))
theorem UA{k:Nat}(hs:s<18446744073709551616)(h:s / 2 ^ k≠0):k<64:=by
 rcases Ql k 64 with a | a
 ·exact a
 ·exfalso;apply h;apply Nat.div_eq_of_lt;exact QT hs (Z7 (n:=2) (by omega) a)
attribute [local go_sem] Oper.semAt_some
theorem E9(s:Nat)(hs:s<18446744073709551616)(w0:World):apu qY Tryz.prog 137 (.int .u64 (s:Int)) (cu s) w0:=by
 intro l J W o hW ho hJ X Y;have K:=Zh X;have v:Hid _:=@Pv s;have w:Hid _:=@Uy s;have y:Hid _:=@Uz s;have L:Hid (∀ n x,n<64->_):=fun n x Z=>Tv s n hs Z x
 have z:Hid (∀ k,s / 2 ^ k≠0->k<64):=fun k h=>UA hs h
 have M:Hid (uQ s 0=[]):=rfl;generalize uQ s=RT at *;refine(QZ (n:=0)).1 (callsIn_of_wp Tryz.func137 rfl trivial ?_ rfl);simp only[Tryz.ntmps137,Q6,Q7,Q8,Nat.reduceAdd,Nat.reduceSub,Q9,Za,Zb,Zc,Zd,Ze]
 gi_wp2
 gi_loopw [4] (fun i wr=>∃ k:Nat,k<=64/\i=.int .i64 k/\∃ g,Hid (J (RT k) g wr)/\Hid (Kept (fun b=>¬ o b) W wr)/\Hid (∀ b,g b->o b∨(W.heap.size<=b/\b<wr.heap.size)))
  (fun i _=>64-(intOf i).toNat)
 case atStart=>exact⟨0,Zf _,rfl,o,by rw[M.o]; exact Y,QR _ _,fun b h=>.inl h⟩
 case round=>
  obtain⟨k,R,rfl,g,f,m,a⟩:=hrel;by_cases G:s / 2 ^ k=0
  ·have N:=Zh (y.o R G);have A:((s:Int) / 2 ^ k != 0)=false:=by
    have e:((s:Int) / 2 ^ k)=((s / 2 ^ k:Nat):Int):=by simp
    rw[e,G]; rfl
   gi_wp2
   go_end0;exact⟨⟨_,rfl⟩,cu s,g,by simp[qY],by rw[<- N.o]; exact f.o,m.o,a.o⟩
  ·have B:=z.o k G;have A:((s:Int) / 2 ^ k != 0)=true:=by
    have e:((s:Int) / 2 ^ k)=((s / 2 ^ k:Nat):Int):=by simp
    rw[e,bne_iff_ne]; omega
   have r:=Zh (v.o k);have O:Hid (RT (k+1) <+: cu s):=w.o (by omega);have t:=L.o k wr B
   cases q:s.testBit k with
   | false =>
    rw[q]at t r
    gi_wp2
    refine⟨trivial,rfl,QZ.2 (t.mono ?_)⟩;rintro e I ⟨rfl,rfl⟩
    gi_wp2
    refine⟨(fun _ h=>by cases h),?_⟩
    gi_wp2
    go_roundw
    case rel=>exact⟨k+1,by omega,by go_num,g,by have h:RT (k+1)=RT k++[]:=r.o; rw[h,XB]; exact f.o,m.o,a.o⟩
    case measure=>simp[intOf]; omega
   | true =>
    rw[q]at t r;have j:Hid (RT (k+1)=RT k++[k]):=r.o;obtain⟨S,tmps,d,p,T,U⟩:=K.o (RT k) k g wr f.o (by rw[<- j.o]; simpa [qY] using O.o) trivial (fun b h=>by cases h) m.o.size;have P:(Instr.yield l #[.int .i64 (k:Int)]).run Tryz.prog wr=.ok (.round l S tmps d p) wr:=T
    gi_wp2
    refine⟨trivial,rfl,QZ.2 (t.mono ?_)⟩;rintro e I ⟨rfl,rfl⟩
    gi_wp2
    refine⟨rfl,U.mono ?_⟩;rintro e I ⟨rfl,V,D,E,F⟩;have C:=Zh D;have H:=Zh E;have Q:=Zh F
    gi_wp2
    go_roundw
    case rel=>
     refine⟨k+1,by omega,by go_num,V,by rw[j.o]; exact C.o,m.o.trans' H.o ?_,?_⟩
     ·intro b q h u;rcases a.o b u with u | u
      ·exact h u
      ·omega
     ·intro b q;have:=H.o.size;have:=m.o.size;rcases Q.o b q with h | h | h
      ·rcases a.o b h with h | h
       ·exact .inl h
       ·exact .inr ⟨h.1,by omega⟩
      ·exact .inr ⟨by omega,h.2⟩
      ·cases h.1
    case measure=>simp[intOf]; omega
end
section
theorem Fa{α:Type}{pre l:List α}{x:α}(h:pre++[x] <+: l):x∈l:=h.subset (by simp)
structure GM(w2:World)(t:TypeId)(X:Nat)(o1:Nat->Prop)(W:World):Prop where
 g:GB W w2.heap.size t #[.int .u64 (X:Int)]
 below:Bw w2 W
 iff:∀ b,o1 b↔b=w2.heap.size
theorem GM.keep{w2:World}{t:TypeId}{X:Nat}{o1:Nat->Prop}{A B:World}{n:Nat}(h:GM w2 t X o1 A)(hn:w2.heap.size<=n)(hk:Kept (fun b=>o1 b∨b<n) A B):GM w2 t X o1 B:=
 ⟨h.g.keep hk (.inl ((h.iff _).2 rfl)),h.below.trans (hk.below h.below.size (fun b a=>.inr (by omega))),h.iff⟩
theorem GM.step{w2:World}{t:TypeId}{X Y:Nat}{o1:Nat->Prop}{W:World}(h:GM w2 t X o1 W):GM w2 t Y o1 (W.drew.setCell (aD w2.heap.size 0) (.int .u64 (Y:Int)))/\Kept (fun b=>¬ o1 b) W (W.drew.setCell (aD w2.heap.size 0) (.int .u64 (Y:Int))):=by
 have d:Kept (fun b=>b≠w2.heap.size) W (W.drew.setCell (aD w2.heap.size 0) (.int .u64 (Y:Int))):=(QU ((Qr W.heap.size W).drew) (fun b a _=>a)).trans (Zn _ _ _ (fun h=>h rfl));exact⟨⟨(h.g.keep (QU (s:=fun _=>True) ((Qr W.heap.size W).drew) (fun b a _=>a)) trivial).set 0 _,h.below.trans (d.below h.below.size (fun b a=>Nat.ne_of_lt a)),h.iff⟩,d.mono fun b _ a e=>a ((h.iff b).2 e)⟩
attribute [local go_sem] Oper.semAt_some
theorem Pw(f:aS)(ts:List af)(q:ae)(p:aB)(ao:Option Addr)(pl cap:Nat)(w:World)(ok:Ok ts q)(hf:f.At ts q w)(hs:p.sources<2 ^ q.src.xs.length)(hc:p.clauses<2 ^ q.wh.length)(hk:dO p.kind=false) :
  Cb 99 #[.agg (f.cells ts q),.agg p.cells,.slice ao pl cap] w (.int .u64 ((jS ts q p.sources p.clauses:Nat):Int)):=by
 have aX:p.sources<18446744073709551616:=QT hs (Z7 (n:=2) (by omega) ok.small);have aY:p.clauses<18446744073709551616:=QT hc (Z7 (n:=2) (by omega) ok.oM);have bH:Hid (∀ x∈cu p.sources,x<q.src.xs.length):=fun x u=>JS hs u
 have bI:Hid (∀ x∈cu p.clauses,x<q.wh.length):=fun x u=>JS hc u
 have Z:=Zh (E9 p.sources aX);have aa:=Zh (E9 p.clauses aY);have HR:Hid _:=hf.rows;have HP:Hid _:=hf.parts;have VS:=Zh (WC ts q);have yF:=Zh (IA ts q);have Iw:Hid (∀ x,x<q.src.xs.length->(Br ts q).getD x 0<=bB):=fun x u=>by
  rw[IB ts q u];obtain⟨h0,h1⟩:=zF ok.src (k:=x) u;have ht:=zB ok.cat (i:=(q.src.xs.getD x 0).toNat) (by omega);unfold dX at ht;rw[QE]at ht;unfold jm bB;rw[ZY];omega
 have ag:Hid (∀ x,x<q.wh.length->1<=(wO ts q).getD x 0/\(wO ts q).getD x 0<=1000000):=fun x u=>by
  rw[Au ts q u];exact adv ok.cat ok.src (ok.cols x u)
 obtain⟨X,bg,bn,r,bq⟩:∃ X:List Nat->Nat,X []=1/\(∀ a x,x<q.src.xs.length->X (a++[x])=bP (X a) ((Br ts q).getD x 0))/\(∀ a,X a<=bB)/\X (cu p.sources)=((cu p.sources).map fun (k:Nat)=>jm ts q.src.xs (k:Int)).foldl bP 1:=
  ⟨fun a=>(a.map fun (k:Nat)=>jm ts q.src.xs (k:Int)).foldl bP 1,rfl,fun a x u=>by simp only[Qn,ZZ]; rw[IB ts q u]; rfl,fun a=>oD _ 1 (by unfold bB; omega),rfl⟩
 obtain⟨G,P⟩:=eX (X (cu p.sources))
 obtain⟨Y,bu,bz,aI,bA⟩:∃ Y:List Nat->Nat,Y []=G/\(∀ a x,x<q.wh.length->Y (a++[x])=Y a / (wO ts q).getD x 0)/\(∀ a,Y a<=bB)/\Y (cu p.clauses)=(cu p.clauses).foldl (fun x c=>x / jf ts q.src.xs (q.wh.getD c lz).cs) G:=
  ⟨fun a=>a.foldl (fun x c=>x / jf ts q.src.xs (q.wh.getD c lz).cs) G,rfl,fun a x u=>by simp only[ZZ]; rw[Au ts q u]; rfl,fun a=>QS (uP _ a G) (by rw[<- P]; exact r _),rfl⟩
 obtain⟨R,hR⟩:=eY (jS ts q p.sources p.clauses)
 have lJ:Hid (R=if G=0 then 0 else max (Y (cu p.clauses)) 1):=by
  show R=_
  rw[hR];unfold jS;rw[<- bq,P,bA]
 rw[<- hR];clear hR;have ah:=Zh bg;have ai:=Zh bn;have bJ:=Zh r;have bK:=Zh P;have aj:=Zh bu;have U7:=Zh bz;have ak:=Zh aI;clear bg bn r bq P bu bz aI bA;have au:=fun x=>zz p.kind x
 rw[hk]at au;obtain⟨v0,v1,v2,v3,v4,v5,v6,v7,v8,v9,aJ,aK,aL,dQ,-,-,-,-,-,-,-,-,-,-,bC,-,aM⟩:=Ju f ts q;rw[dQ];rw[hf.pl]at aM;rw[aau];clear hk hs hc aX aY dQ ok hf;generalize Br ts q=RL at *;generalize wO ts q=PL at *;generalize cu p.sources=SL at *;generalize cu p.clauses=CL at *;obtain⟨kind,ps,pc,cz,aN,aO⟩:=p;simp only at *;generalize cz.val=od at *;obtain⟨V,cO,bD,aP⟩:=aR w #[v0,v1,v2,v3,v4,v5,v6,v7,v8,v9,aJ,aK,aL] 70;obtain⟨Q,cZ,S,T⟩:=aR V #[.int .i64 kind,.int .u64 (ps:Int),.int .u64 (pc:Int),od,.int .u64 (aN:Int),.int .u64 (aO:Int)] 75;have av:=S;have aZ:=aC bD av;have cK:=aP.of (av.block _ aP.lt);have aU:=cK.at 10;have aV:=cK.at 12;have ig:=T;obtain⟨eT,fK,gy⟩:=ig.k3;rw[bC]at aU;rw[aM]at aV;clear bC aM;obtain⟨w3,bE,aQ,bF⟩:=aR Q #[.int .u64 1] 39;have N:Hid (w3.heap.size=Q.heap.size+1):=by rw[<- bE]; show _=_; simp
 have L:=Zh aZ;have xD:=Zh aQ;have Co:Hid _:=bF;have b1:=cB aQ fK;have bL:=Zh aU;have bM:=Zh aV;have bN:=Zh gy;clear bD S aP T cK ig aZ av aQ bF aU aV gy fK;refine(QZ (n:=0)).1 (Zk Tryz.func99 rfl trivial ?_ rfl);simp only[Tryz.ntmps99,Q6,Q7,Q8,Nat.reduceAdd,Nat.reduceSub,Q9,Za,Zb,Zc,Zd,Ze]
 gi_wp2
 refine⟨trivial,rfl,QZ.2 ((au _).mono ?_)⟩;rintro e W ⟨rfl,ax⟩;have ax:=ax.symm;subst ax;clear au
 gi_wp2
 clear b1 eT cO cZ bE;refine JU qY (gf:=137) (s:=.int .u64 (ps:Int)) rfl (Jl Tryz.func137 (by kernel_rfl) rfl) (Z.o Q) xD.o rfl
  (fun a z W=>GM Q 39 (X a) z W) (fun b=>b=Q.heap.size) ?_ ?_ ⟨by rw[ah.o]; exact Co.o,xD.o,fun _=>Iff.rfl⟩
  (fun x=>{ tmps:=#[.agg #[v0,v1,v2,v3,v4,v5,v6,v7,v8,v9,aJ,aK,aL],.agg #[.int .i64 kind,.int .u64 (ps:Int),.int .u64 (pc:Int),od,.int .u64 (aN:Int),.int .u64 (aO:Int)],.slice ao pl cap,.pointer (some (aD w.heap.size 0)),.pointer (some (aD V.heap.size 0)),undef,.int .u64 0,.pointer (some (aD Q.heap.size 0)),.int .i64 (x:Int),undef,undef,.pointer (some (aD V.heap.size 0)),.int .i64 kind,.bool false,undef,undef,undef,undef,.pointer (some (aD V.heap.size 1)),.int .u64 (ps:Int),.func (.func 137) #[.int .u64 (ps:Int)] #[],.int .i64 (x:Int),undef,undef,undef,undef,undef,undef,undef,undef,undef,undef,undef,undef,undef,undef,undef,undef,undef,undef,undef,undef,undef,undef,undef],defers:=[] }) ?assign ?body ?done
 ·rintro b rfl;exact⟨Qs _,by have:=N.o; omega⟩
 ·intro a z A B h hk;exact h.keep (by have:=N.o; omega) hk
 case assign=>
  intro l x W K d;have he:qY.enc x=.int .i64 (x:Int):=rfl
  gi_wp2
  exact d
 case body=>
  intro l a x z W j t u J aW;have m:=bH.o x (Fa (by simpa [qY] using t));have D:=L.o.trans (j.below.mono L.o.size);obtain⟨rb,ro,H,I⟩:=gG.get (gG.below D HR.o) (i:=x) (by rw[VS.o]; exact m);have bO:=I x (by rw[VS.o]; exact m);have C:=Zh (ai.o a x m);have ay:=Iw.o x m;have r:=bJ.o a;have bQ:=j.g.at 0;have bR:=j.g.frozen 0;have az:=cB j.below bL.o;rw[H]at az;have HI:=Zh j;clear I t u J aW j D H;generalize RL.getD x 0=rn at *;have hT:=fun y=>xY (X a) rn y r ay
  rw[<- C.o]at hT;have pq:Hid (∀ act,jl qY (fun a z W=>GM Q 39 (X a) z W) a x w3.heap.size z W .normal act (W.drew.setCell (aD Q.heap.size 0) (.int .u64 (X (a++[x]):Int)))):=fun _=>⟨z,HI.o.step.1,HI.o.step.2,fun b hb=>.inl hb⟩
  clear ay r C;generalize X (a++[x])=Xn at *;generalize X a=Xp at *
  gi_wp2_with fail
  have Gc:Tryz.prog.follows .mixedOrders=true:=by kernel_rfl
  refine wpIn_region_any Gc (kL (jG (by kernel_rfl)) _ _ _ _ ?_);change wpAnyIn _ _ _ _ _ _ _ _ _ (World.drew _);refine Jp (i:=1) (v:=.pointer (some (aD w.heap.size 10))) rfl rfl (by kernel_rfl) (by kernel_rfl) (by kernel_rfl) (fun _ _ _ h=>h) ⟨XG ⟨by rfl,fun w=>by go_simp⟩,fun _=>rfl⟩ ?_;refine Jp (i:=3) (v:=.int .i64 (x:Int)) rfl rfl (by kernel_rfl) (by kernel_rfl) (by kernel_rfl) (fun _ _ _ h=>h) ⟨XG ⟨by rfl,fun w=>by go_simp⟩,fun _=>rfl⟩ ?_;refine Jq (rs:=[0,2]) (by kernel_rfl) (by simp) ?_;refine Jr rfl (fun K d=>?_) ?_
  ·skip;go_simp;refine d _ _ ?_;clear d K;refine Jq (rs:=[2]) (by kernel_rfl) (by simp) ?_;refine Jr rfl (fun K d=>?_) Js;go_simp;refine d _ _ ?_;clear d K;refine Jp (i:=4) (v:=.pointer (some (aD rb (ro+x)))) rfl rfl (by kernel_rfl) (by kernel_rfl) (by kernel_rfl) (fun _ _ _ h=>h) ⟨XG ⟨by rfl,fun w=>by go_simp⟩,fun _=>rfl⟩ ?_;refine Jq (rs:=[5]) (by kernel_rfl) (by simp) ?_;refine Jr rfl (fun K d=>?_) Js;go_simp;refine d _ _ ?_;clear d K;refine Jq (rs:=[6]) (by kernel_rfl) (by simp) ?_;refine Jr rfl (fun K d=>?_) Js;go_simp;refine⟨trivial,rfl,QZ.2 ((hT _).mono ?_)⟩;rintro e Wt ⟨rfl,rfl⟩;refine d _ _ ?_;clear d K;refine Jq (rs:=[7]) (by kernel_rfl) (by simp) ?_;refine Jr rfl (fun K d=>?_) Js;go_simp;refine d _ _ ?_;clear d K;refine Jt (by kernel_rfl) ?_ _;exact pq.o ⟨#[],[]⟩
  refine Jr rfl (fun K d=>?_) Js;go_simp;refine d _ _ ?_;clear d K;refine Jp (i:=4) (v:=.pointer (some (aD rb (ro+x)))) rfl rfl (by kernel_rfl) (by kernel_rfl) (by kernel_rfl) (fun _ _ _ h=>h) ⟨XG ⟨by rfl,fun w=>by go_simp⟩,fun _=>rfl⟩ ?_;refine Jq (rs:=[0,5]) (by kernel_rfl) (by simp) ?_;refine Jr rfl (fun K d=>?_) ?_
  ·skip;go_simp;refine d _ _ ?_;clear d K;refine Jq (rs:=[5]) (by kernel_rfl) (by simp) ?_;refine Jr rfl (fun K d=>?_) Js;go_simp;refine d _ _ ?_;clear d K;refine Jq (rs:=[6]) (by kernel_rfl) (by simp) ?_;refine Jr rfl (fun K d=>?_) Js;go_simp;refine⟨trivial,rfl,QZ.2 ((hT _).mono ?_)⟩;rintro e Wt ⟨rfl,rfl⟩;refine d _ _ ?_;clear d K;refine Jq (rs:=[7]) (by kernel_rfl) (by simp) ?_;refine Jr rfl (fun K d=>?_) Js;go_simp;refine d _ _ ?_;clear d K;refine Jt (by kernel_rfl) ?_ _;exact pq.o ⟨#[],[]⟩
  refine Jr rfl (fun K d=>?_) Js;go_simp;refine d _ _ ?_;clear d K;refine Jq (rs:=[0]) (by kernel_rfl) (by simp) ?_;refine Jr rfl (fun K d=>?_) Js;go_simp;refine d _ _ ?_;clear d K;refine Jq (rs:=[6]) (by kernel_rfl) (by simp) ?_;refine Jr rfl (fun K d=>?_) Js;go_simp;refine⟨trivial,rfl,QZ.2 ((hT _).mono ?_)⟩;rintro e Wt ⟨rfl,rfl⟩;refine d _ _ ?_;clear d K;refine Jq (rs:=[7]) (by kernel_rfl) (by simp) ?_;refine Jr rfl (fun K d=>?_) Js;go_simp;refine d _ _ ?_;clear d K;refine Jt (by kernel_rfl) ?_ _;exact pq.o ⟨#[],[]⟩
 case done=>
  rintro ys o' M aT j S T hD;have aA:ys=SL:=by simpa [qY] using aT
  subst aA;rw[bK.o]at j;have bf:=j.g.at 0;have E:=j.below;have bS:=Zh hD;have F:=Zh ((QO.1 hD).1);by_cases h0:G=0
  ·have bT:Hid (R=0):=by show R=0; rw[lJ.o,Qu h0]
   subst h0;clear ai U7 lJ Z aa HP HR Iw ag ah aj Co
   gi_wp2
   refine⟨by simp,.inl ⟨_,_,rfl,Zm hD,?_⟩⟩;refine⟨_,results_tmp rfl _ _ _,by rw[bT.o]; rfl,?_⟩;exact L.o.trans (((E.mono L.o.size)).trans ((QV (s:=fun b=>b<w.heap.size) _ _ (by have:=L.o.size; have:=N.o; omega)).below (QS L.o.size E.size) (fun _ h=>h)))
  ·have bU:Hid (R=max (Y CL) 1):=by show R=_; rw[lJ.o,Qv h0]
   have bW:((G:Int)==0)=false:=by rw[XU]; omega
   obtain⟨W3,U⟩:∃ x,M.alloc (.cells #[.int .u64 (G:Int)] 39)=x:=⟨_,rfl⟩
   have qw:Bw M W3:=by rw[<- U]; exact bV _ _
   have bX:Hid (GB W3 M.heap.size 39 #[.int .u64 (G:Int)]):=by rw[<- U]; exact lZ _ _
   have O:Hid (W3.heap.size=M.heap.size+1):=by rw[<- U]; show _=_; simp
   have c2:=cB qw (cB E bN.o);have nO:=Zh qw;have aF:=Zh E;clear h0 ai Z lJ HR Iw ah Co S T hD j qw E
   gi_wp2
   clear c2 bf U bW;refine JU qY (gf:=137) (s:=.int .u64 (pc:Int)) rfl (Jl Tryz.func137 (by kernel_rfl) rfl) (aa.o M) nO.o rfl
    (fun a z W=>GM M 39 (Y a) z W) (fun b=>b=M.heap.size) ?_ ?_ ⟨by rw[aj.o]; exact bX.o,nO.o,fun _=>Iff.rfl⟩
    (fun x=>{ tmps:=#[.agg #[v0,v1,v2,v3,v4,v5,v6,v7,v8,v9,aJ,aK,aL],.agg #[.int .i64 kind,.int .u64 (ps:Int),.int .u64 (pc:Int),od,.int .u64 (aN:Int),.int .u64 (aO:Int)],.slice ao pl cap,.pointer (some (aD w.heap.size 0)),.pointer (some (aD V.heap.size 0)),undef,.int .u64 0,.pointer (some (aD Q.heap.size 0)),undef,.pointer (some (aD M.heap.size 0)),.int .i64 (x:Int),.pointer (some (aD V.heap.size 0)),.int .i64 kind,.bool false,undef,undef,undef,undef,.pointer (some (aD V.heap.size 1)),.int .u64 (ps:Int),.func (.func 137) #[.int .u64 (ps:Int)] #[],undef,undef,undef,undef,undef,undef,undef,undef,.int .u64 (G:Int),.bool false,.int .u64 (G:Int),.pointer (some (aD V.heap.size 2)),.int .u64 (pc:Int),.func (.func 137) #[.int .u64 (pc:Int)] #[],.int .i64 (x:Int),undef,undef,undef,undef,undef,undef,undef,undef,undef],defers:=[] }) ?agI ?apy ?apz
   ·rintro b rfl;exact⟨Qs _,by have:=O.o; omega⟩
   ·intro a z A B h hk;exact h.keep (by have:=O.o; omega) hk
   case agI=>
    intro l x W K d;have he:qY.enc x=.int .i64 (x:Int):=rfl
    gi_wp2
    exact d
   case apy=>
    intro l a x z W j t u J aW;have m:=bI.o x (Fa (by simpa [qY] using t));have aG:=aF.o.trans (j.below.mono aF.o.size);have D:=L.o.trans (aG.mono L.o.size);obtain⟨rb,ro,H,I⟩:=gG.get (gG.below D HP.o) (i:=x) (by rw[yF.o]; exact m);have bO:=I x (by rw[yF.o]; exact m);have C:=Zh (U7.o a x m);obtain⟨dB,ay⟩:=ag.o x m;have r:=ak.o a;have bQ:=j.g.at 0;have bR:=j.g.frozen 0;have az:=cB aG bM.o;rw[H]at az;have HI:=Zh j;clear I t u J aW j D H aG;generalize PL.getD x 0=rn at *;have pq:Hid (∀ act,jl qY (fun a z W=>GM M 39 (Y a) z W) a x W3.heap.size z W .normal act (W.drew.setCell (aD M.heap.size 0) (.int .u64 (Y (a++[x]):Int)))):=fun _=>⟨z,HI.o.step.1,HI.o.step.2,fun b hb=>.inl hb⟩
    have HQ:Hid (Y a<=18446744073709551615):=r;generalize Y (a++[x])=Xn at *;generalize Y a=Xp at *;have dm:((Xp:Int)).tdiv (rn:Int)=(Xn:Int):=by
     rw[C.o,Int.tdiv_eq_ediv_of_nonneg (by omega),Int.natCast_ediv]
    have dn:IntKind.u64.wrap (Xn:Int)=(Xn:Int):=KY (by have:=HQ.o; rw[C.o]; have:=Nat.div_le_self Xp rn; omega);have dw:¬ rn=0:=by omega
    clear r C
    gi_wp2_with fail
    have Gc:Tryz.prog.follows .mixedOrders=true:=by kernel_rfl
    refine wpIn_region_any Gc (kL (jG (by kernel_rfl)) _ _ _ _ ?_);change wpAnyIn _ _ _ _ _ _ _ _ _ (World.drew _);refine Jp (i:=1) (v:=.pointer (some (aD w.heap.size 12))) rfl rfl (by kernel_rfl) (by kernel_rfl) (by kernel_rfl) (fun _ _ _ h=>h) ⟨XG ⟨by rfl,fun w=>by go_simp⟩,fun _=>rfl⟩ ?_;refine Jp (i:=3) (v:=.int .i64 (x:Int)) rfl rfl (by kernel_rfl) (by kernel_rfl) (by kernel_rfl) (fun _ _ _ h=>h) ⟨XG ⟨by rfl,fun w=>by go_simp⟩,fun _=>rfl⟩ ?_;refine Jq (rs:=[0,2]) (by kernel_rfl) (by simp) ?_;refine Jr rfl (fun K d=>?_) ?_
    ·skip;go_simp;refine d _ _ ?_;clear d K;refine Jq (rs:=[2]) (by kernel_rfl) (by simp) ?_;refine Jr rfl (fun K d=>?_) Js;go_simp;refine d _ _ ?_;clear d K;refine Jp (i:=4) (v:=.pointer (some (aD rb (ro+x)))) rfl rfl (by kernel_rfl) (by kernel_rfl) (by kernel_rfl) (fun _ _ _ h=>h) ⟨XG ⟨by rfl,fun w=>by go_simp⟩,fun _=>rfl⟩ ?_;refine Jq (rs:=[5]) (by kernel_rfl) (by simp) ?_;refine Jr rfl (fun K d=>?_) Js;go_simp;refine d _ _ ?_;clear d K;refine Jq (rs:=[6]) (by kernel_rfl) (by simp) ?_;refine Jr rfl (fun K d=>?_) Js;go_simp;refine d _ _ ?_;clear d K;refine Jq (rs:=[7]) (by kernel_rfl) (by simp) ?_;refine Jr rfl (fun K d=>?_) Js;go_simp;refine d _ _ ?_;clear d K;refine Jt (by kernel_rfl) ?_ _;exact pq.o ⟨#[],[]⟩
    refine Jr rfl (fun K d=>?_) Js;go_simp;refine d _ _ ?_;clear d K;refine Jp (i:=4) (v:=.pointer (some (aD rb (ro+x)))) rfl rfl (by kernel_rfl) (by kernel_rfl) (by kernel_rfl) (fun _ _ _ h=>h) ⟨XG ⟨by rfl,fun w=>by go_simp⟩,fun _=>rfl⟩ ?_;refine Jq (rs:=[0,5]) (by kernel_rfl) (by simp) ?_;refine Jr rfl (fun K d=>?_) ?_
    ·skip;go_simp;refine d _ _ ?_;clear d K;refine Jq (rs:=[5]) (by kernel_rfl) (by simp) ?_;refine Jr rfl (fun K d=>?_) Js;go_simp;refine d _ _ ?_;clear d K;refine Jq (rs:=[6]) (by kernel_rfl) (by simp) ?_;refine Jr rfl (fun K d=>?_) Js;go_simp;refine d _ _ ?_;clear d K;refine Jq (rs:=[7]) (by kernel_rfl) (by simp) ?_;refine Jr rfl (fun K d=>?_) Js;go_simp;refine d _ _ ?_;clear d K;refine Jt (by kernel_rfl) ?_ _;exact pq.o ⟨#[],[]⟩
    refine Jr rfl (fun K d=>?_) Js;go_simp;refine d _ _ ?_;clear d K;refine Jq (rs:=[0]) (by kernel_rfl) (by simp) ?_;refine Jr rfl (fun K d=>?_) Js;go_simp;refine d _ _ ?_;clear d K;refine Jq (rs:=[6]) (by kernel_rfl) (by simp) ?_;refine Jr rfl (fun K d=>?_) Js;go_simp;refine d _ _ ?_;clear d K;refine Jq (rs:=[7]) (by kernel_rfl) (by simp) ?_;refine Jr rfl (fun K d=>?_) Js;go_simp;refine d _ _ ?_;clear d K;refine Jt (by kernel_rfl) ?_ _;exact pq.o ⟨#[],[]⟩
   case apz=>
    rintro ys o' W4 aT j df dh di;have aA:CL=ys:=by symm; simpa [qY] using aT
    subst aA;have bf:=j.g.at 0;have aH:=j.below;have aI:=ak.o CL;have bY:Hid _:=bU;generalize Y CL=yv at *;obtain⟨rv,bG⟩:=eY (max yv 1)
    have dx:max (yv:Int) 1=(rv:Int):=by omega
    have dz:max (1:Int) (yv:Int)=(rv:Int):=by omega
    have dA:(if (yv:Int)<1 then 1 else (yv:Int))=(rv:Int):=by split <;> omega
    have FX:Hid (R=rv):=by show R=rv; rw[bG]; exact bY.o
    have bZ:=(aH.block _ F.o).trans bS.o;clear bG U7 aa HP ag aj ak df dh
    gi_wp2
    refine⟨by simp,.inl ⟨_,_,rfl,Zm di,?_⟩⟩;refine⟨by simp,.inl ⟨_,_,rfl,Zm ((QW (by have:=F.o; have:=O.o; omega)).trans bZ),?_⟩⟩;refine⟨_,results_tmp rfl _ _ _,by rw[FX.o]; rfl,?_⟩;have s0:=L.o.size;have s3:=N.o;have s4:=O.o;have s5:=aH.size;have s6:=F.o;refine L.o.trans (((aF.o.mono s0)).trans ((aH.mono (by omega)).trans (((QV (s:=fun b=>b<w.heap.size) _ _ (by omega)).below (by omega) (fun _ h=>h)).trans ((QV (s:=fun b=>b<w.heap.size) _ _ (by omega)).below (by rw[Q0]; omega) (fun _ h=>h)))))
end
theorem UC(f:aS)(ts:List af)(q:ae)(p:aB)(ao:Option Addr)(cap:Nat)(ps:List aB)(w:World)(hp:PartsAt w ao ps)(h0:0<ps.length)(hk:dO p.kind=true) :
  Cb 99 #[.agg (f.cells ts q),.agg p.cells,.slice ao ps.length cap] w (.int .u64 (((ps.getD 0 aT).size:Nat):Int)):=by
 obtain⟨⟨F,po,rfl,s,t,u,v,l,y⟩,-⟩:=hp.2 0 h0;rw[QI,Xg]at l;have b:=fun x=>zz p.kind x
 rw[hk]at b;generalize f.cells ts q=FC at *;obtain⟨A,B,g,m⟩:=aR w FC 70;obtain⟨G,C,i,j⟩:=aR A p.cells 75;have d:=i;have a:=aC g d;have n:=j;have D:=n.at 0;have E:=cB a l;have r:=Zh a;generalize p.kind=k at *;generalize (ps.getD 0 aT).size=z at *;generalize p.cells=PC at *;clear hk hp s t u v l y g i m j n a d;go_enter Tryz.func99,Tryz.ntmps99;go_wp2_with fail;refine(b _).mono ?_;rintro e H ⟨rfl,rfl⟩;go_wp2;go_ret;exact⟨rfl,r.o⟩
theorem UD(f:aS)(ts:List af)(q:ae)(p:aB)(ao:Option Addr)(cap:Nat)(ps:List aB)(w:World)(ok:Ok ts q)(hf:f.At ts q w)(hp:PartsAt w ao ps)(hs:p.sources<2 ^ q.src.xs.length)(hc:p.clauses<2 ^ q.wh.length)(h0:dO p.kind=true->0<ps.length) :
  Calls Tryz.prog 99 #[.agg (f.cells ts q),.agg p.cells,.slice ao ps.length cap] w fun e w'=>e=.returned (.int .u64 (((if dO p.kind=true then (ps.getD 0 aT).size else jS ts q p.sources p.clauses):Nat):Int))/\Bw w w':=by
 cases hk:dO p.kind with
 | true =>
  rw[Qu rfl];exact UC f ts q p ao cap ps w hp (h0 hk) hk
 | false =>
  rw[Qv (by simp)];exact Pw f ts q p ao ps.length cap w ok hf hs hc hk
theorem Fb(n:ah)(w:World)(h:n.kind=1->0<=n.source/\n.source<64) :
  Cb 97 #[.agg n.cells] w (.int .u64 (((if n.kind=1 then 2 ^ n.source.toNat else 0):Nat):Int)):=by
 obtain⟨l,y,d,f⟩:=aR w n.cells 36;have b:=d;have i:=f;have t:=i.at 0;have u:=i.at 3;have j:=Zh b;clear f i d b;generalize n.cells=NC at *;by_cases a:n.kind=1
 ·obtain⟨r,z⟩:=h a;obtain⟨s,m⟩:=Jh r;rw[Qu a];have p:=I4 l.heap.size s (l.alloc (.cells #[.int .i64 (s:Int)] 3)) (by simp) (by omega);have q:2 ^ n.source.toNat=2 ^ s:=by rw[m]; rfl
  rw[q];obtain⟨R,g⟩:∃ R,R=2 ^ s:=⟨_,rfl⟩
  rw[<- g]at p ⊢;clear q g;rw[m]at u;rw[a]at t;have v:Hid (Bw w (l.alloc (.cells #[.int .i64 (s:Int)] 3))):=j.o.trans ((bV _ _).mono j.o.size);clear h m a r z;go_enter Tryz.func97,Tryz.ntmps97;go_wp2_with fail;refine p.mono ?_;rintro e B ⟨rfl,rfl⟩;go_wp2;go_ret;exact⟨rfl,v.o⟩
 ·rw[Qv a];have A:(n.kind==1)=false:=by simp[a]
  generalize n.kind=k at *;go_enter Tryz.func97,Tryz.ntmps97;go_wp2;go_ret;exact⟨rfl,j.o⟩
