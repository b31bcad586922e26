import Derived.Test.YtgemohlbjehmbaaGreatDoorF10
set_option linter.all false
set_option maxRecDepth 100000
set_option maxHeartbeats 16000000
namespace Go.Proofs.Zz
open Go.RowKit Go.Shelf
variable {b base i k n n' s sz:Nat} {ts:List af} {q:ae} {l:List Int} {ops:Array Oper} {e t:TypeId} {W:World} {cs:List aI} {v v':Value} {xs xs':List Value}
theorem Wl(p:aH):p.cells=#[.int .i64 p.kind,.int .u64 (p.sources:Int),.int .u64 (p.clauses:Int),p.order.val,.int .u64 (p.size:Int),.int .u64 (p.cost:Int)]:=rfl
theorem abZ(k:Int)(l r s:Nat):xA k l r s<=dA:=by
 unfold xA
 repeat' split
 ·exact zD _
 ·exact zD _
 ·exact Bj _ _
theorem Rh(p:aH)(ao:Option Addr)(cap:Nat)(ps:List aH)(w:World)(hp:PartsAt w ao ps)(hz:p.size<=dA)(h1:p.kind≠1->0<ps.length)(h2:3<=p.kind->p.kind<=5->1<ps.length) :
  Cb 110 #[.agg p.cells,.slice ao ps.length cap] w (.int .u64 (dL p.kind p.size (ps.getD 0 bE).cost (ps.getD 0 bE).size (ps.getD 1 bE).cost (ps.getD 1 bE).size:Nat)):=by
 obtain⟨F,ag,L,M⟩:=bn w p.cells 73;have i:=L;have fH:=M;have eT:=fH.at 0;have fJ:=fH.at 4;have HC:=Zh i;generalize au:p.cells=PC at *;clear au;by_cases Q:p.kind=1
 ·have g:Hid (dL p.kind p.size (ps.getD 0 bE).cost (ps.getD 0 bE).size (ps.getD 1 bE).cost (ps.getD 1 bE).size=jk [p.size,1]):=by show _=_; unfold dL; rw[Qo Q]
  generalize dL p.kind p.size (ps.getD 0 bE).cost (ps.getD 0 bE).size (ps.getD 1 bE).cost (ps.getD 1 bE).size=R at *;have a:=ai7 F p.size 1 hz (by unfold dA; omega);rw[<- g.o]at a;have kb:(p.kind==1)=true:=by simp[Q]
  clear g Q h1 h2 hz M fH L i hp;generalize p.kind=k at *;generalize p.size=s at *;go_enter Tryz.func110,Tryz.ntmps110;go_wp2_with fail;refine a.mono ?_;clear a;rintro e w2 ⟨rfl,Z⟩;have q:=Zh (aF HC.o Z);clear Z;go_wp2;go_ret;exact⟨rfl,q.o⟩
 have af:=h1 Q;have av:=hp.1;obtain⟨⟨U,V,rfl,c0,c1,c2,c3,c4,c5⟩,hl⟩:=hp.2 0 af;rw[Z7,ZG]at c0 c1 c2 c3 c4 c5;have W:Hid (1<ps.length->w.cell? (aD U (V+6))=some (.int .i64 (ps.getD 1 bE).kind)/\w.cell? (aD U (V+6+1))=some (.int .u64 ((ps.getD 1 bE).sources:Int))/\
  w.cell? (aD U (V+6+2))=some (.int .u64 ((ps.getD 1 bE).clauses:Int))/\w.cell? (aD U (V+6+3))=some (ps.getD 1 bE).order.val/\
  w.cell? (aD U (V+6+4))=some (.int .u64 ((ps.getD 1 bE).size:Int))/\w.cell? (aD U (V+6+5))=some (.int .u64 ((ps.getD 1 bE).cost:Int))/\(ps.getD 1 bE).size<=dA/\(ps.getD 1 bE).cost<=dA):=λh=>by obtain⟨⟨b',o',e,d0,d1,d2,d3,d4,d5⟩,hr⟩:=hp.2 1 h;cases e;rw[Nat.one_mul]at d0 d1 d2 d3 d4 d5;exact⟨d0,d1,d2,d3,d4,d5,hr.size,hr.cost⟩
 have j:=hl.size;have n:=hl.cost;obtain⟨R,hR⟩:=eY (dL p.kind p.size (ps.getD 0 bE).cost (ps.getD 0 bE).size (ps.getD 1 bE).cost (ps.getD 1 bE).size);rw[<- hR];unfold dL at hR;rw[Qu Q]at hR;have g:=Zh hR;clear hR;have t:=h2;clear hp hl h1 h2 M fH;generalize p.kind=k at *;generalize p.size=s at *;generalize ps.getD 0 bE=l at *;generalize ps.getD 1 bE=r at *;obtain⟨lk,ls,J4,⟨la,IK,lx⟩,lz,A⟩:=l;obtain⟨rk,rs,ah,⟨ra,aj,rx⟩,rz,rc⟩:=r;unfold ai.val at *;simp only at *;obtain⟨w2,ak,B,N⟩:=bn F #[.int .i64 lk,.int .u64 (ls:Int),.int .u64 (J4:Int),.slice la lx.length IK,.int .u64 (lz:Int),.int .u64 (A:Int)] 73;have d0:=cB i c0;have d1:=cB i c1;have d2:=cB i c2;have d3:=cB i c3;have d4:=cB i c4;have d5:=cB i c5;have m0:=cB B eT;have m4:=cB B fJ;have l4:=N.at 4;have l5:=N.at 5;have zJ:=Zh (aF HC.o B);have ax:(k==1)=false:=by simp[Q]
 clear c0 c1 c2 c3 c4 c5 N L i B Q;go_enter Tryz.func110,Tryz.ntmps110;go_wp2;refine Qq (by kernel_rfl) (by kernel_rfl) ?_;refine qS (.pointer (some (aD F.heap.size 4))) ?_;refine qC (.int .u64 (lz:Int)) l4 ?_;refine qS (.pointer (some (aD w.heap.size 4))) ?_;refine qC (.int .u64 (s:Int)) m4 ?_;refine qS (.int .u64 (lz:Int)) ?_;refine qS (.int .u64 (s:Int)) ?_;refine Z8 ?_;intro u D;have n0:=cB D m0;have n5:=cB D l5;have v:=Zh (aF zJ.o D);have y:Hid (1<ps.length->_):=λh=>W.o h;clear ag ak m0 m4 l4 l5 D d0 d1 d2 d3 d4 d5 eT fJ W HC zJ;by_cases S:k=3∨k=4∨k=5
 ·rw[Qo S]at g;obtain⟨q0,q1,q2,q3,q4,q5,aa,ae⟩:=y.o (t (by omega) (by omega));have e0:=cB v.o q0;have e1:=cB v.o q1;have e2:=cB v.o q2;have e3:=cB v.o q3;have e4:=cB v.o q4;have e5:=cB v.o q5;have ay:=t (by omega) (by omega);obtain⟨w4,aJ,C,O⟩:=bn u #[.int .i64 rk,.int .u64 (rs:Int),.int .u64 (ah:Int),.slice ra rx.length aj,.int .u64 (rz:Int),.int .u64 (rc:Int)] 73;have r4:=O.at 4;have r5:=O.at 5;have t0:=cB C n0;have t5:=cB C n5;have G:=Zh (aF v.o C);have H:Hid (∀ x,_):=λx=>JV k lz rz s x j aa hz
  have T:Hid (xA k lz rz s<=dA):=abZ _ _ _ _;have UD:Hid (∀ (x:World) (m:Nat),m<=dA->_):=λx m hm=>ai8 x A rc m n ae hm;generalize xA k lz rz s=wk at *;clear q0 q1 q2 q3 q4 q5 C O t y j n aa ae hz;have E:=Zh S;clear S;rcases E.o with h | h | h
  ·subst h;clear E;go_wp2;refine wH w4 λa=>?_
   refine wt 0 (.pointer (some (aD F.heap.size 5))) a ?_;refine l8 1 (.int .u64 (A:Int)) a t5 ?_;refine wt 2 (.pointer (some (aD u.heap.size 5))) a ?_;refine l8 3 (.int .u64 (rc:Int)) a r5 ?_;refine wt 4 (.pointer (some (aD w.heap.size 0))) a ?_;refine l8 5 (.int .i64 3) a t0 ?_;refine wt 6 (.int .u64 (lz:Int)) a ?_;refine wt 7 (.pointer (some (aD u.heap.size 4))) a ?_;refine l8 8 (.int .u64 (rz:Int)) a r4 ?_;refine wt 9 (.int .u64 (s:Int)) a ?_;refine wR 10 λK b=>?_;go_simp;refine Z5 (H.o _) ?_;rintro e P ⟨rfl,d⟩;refine oT b a d λa=>?_;clear b K;refine wR 11 λK b=>?_;go_simp;refine oA b a λa=>?_;clear b K;refine wR 12 λK b=>?_;go_simp;refine Z5 (UD.o P wk T.o) ?_;rintro e w6 ⟨rfl,f⟩;refine b.o _ _ ((Below.trans (((Qm _ _).drew).trans (d.mono (by simp))) (f.mono (by have:=d.size; simp at this; omega)))) (λa=>?_);clear b K;refine wR 13 λK b=>?_;go_simp;refine b.o _ _ a λa=>?_;clear b K;refine wD ?_;try simp only[pU]
   have q:=Zh (aF G.o a);rw[<- g.o];clear a d f g;go_wp2;go_ret;exact⟨rfl,q.o⟩
  ·subst h;clear E;go_wp2;refine wH w4 λa=>?_
   refine wt 0 (.pointer (some (aD F.heap.size 5))) a ?_;refine l8 1 (.int .u64 (A:Int)) a t5 ?_;refine wt 2 (.pointer (some (aD u.heap.size 5))) a ?_;refine l8 3 (.int .u64 (rc:Int)) a r5 ?_;refine wt 4 (.pointer (some (aD w.heap.size 0))) a ?_;refine l8 5 (.int .i64 4) a t0 ?_;refine wt 6 (.int .u64 (lz:Int)) a ?_;refine wt 7 (.pointer (some (aD u.heap.size 4))) a ?_;refine l8 8 (.int .u64 (rz:Int)) a r4 ?_;refine wt 9 (.int .u64 (s:Int)) a ?_;refine wR 10 λK b=>?_;go_simp;refine Z5 (H.o _) ?_;rintro e P ⟨rfl,d⟩;refine oT b a d λa=>?_;clear b K;refine wR 11 λK b=>?_;go_simp;refine oA b a λa=>?_;clear b K;refine wR 12 λK b=>?_;go_simp;refine Z5 (UD.o P wk T.o) ?_;rintro e w6 ⟨rfl,f⟩;refine b.o _ _ ((Below.trans (((Qm _ _).drew).trans (d.mono (by simp))) (f.mono (by have:=d.size; simp at this; omega)))) (λa=>?_);clear b K;refine wR 13 λK b=>?_;go_simp;refine b.o _ _ a λa=>?_;clear b K;refine wD ?_;try simp only[pU]
   have q:=Zh (aF G.o a);rw[<- g.o];clear a d f g;go_wp2;go_ret;exact⟨rfl,q.o⟩
  ·subst h;clear E;go_wp2;refine wH w4 λa=>?_
   refine wt 0 (.pointer (some (aD F.heap.size 5))) a ?_;refine l8 1 (.int .u64 (A:Int)) a t5 ?_;refine wt 2 (.pointer (some (aD u.heap.size 5))) a ?_;refine l8 3 (.int .u64 (rc:Int)) a r5 ?_;refine wt 4 (.pointer (some (aD w.heap.size 0))) a ?_;refine l8 5 (.int .i64 5) a t0 ?_;refine wt 6 (.int .u64 (lz:Int)) a ?_;refine wt 7 (.pointer (some (aD u.heap.size 4))) a ?_;refine l8 8 (.int .u64 (rz:Int)) a r4 ?_;refine wt 9 (.int .u64 (s:Int)) a ?_;refine wR 10 λK b=>?_;go_simp;refine Z5 (H.o _) ?_;rintro e P ⟨rfl,d⟩;refine oT b a d λa=>?_;clear b K;refine wR 11 λK b=>?_;go_simp;refine oA b a λa=>?_;clear b K;refine wR 12 λK b=>?_;go_simp;refine Z5 (UD.o P wk T.o) ?_;rintro e w6 ⟨rfl,f⟩;refine b.o _ _ ((Below.trans (((Qm _ _).drew).trans (d.mono (by simp))) (f.mono (by have:=d.size; simp at this; omega)))) (λa=>?_);clear b K;refine wR 13 λK b=>?_;go_simp;refine b.o _ _ a λa=>?_;clear b K;refine wD ?_;try simp only[pU]
   have q:=Zh (aF G.o a);rw[<- g.o];clear a d f g;go_wp2;go_ret;exact⟨rfl,q.o⟩
 rw[Qu S]at g;have az:(k==3)=false:=by simp; omega
 have aA:(k==4)=false:=by simp; omega
 have aB:(k==5)=false:=by simp; omega
 by_cases k6:k=6∨k=10
 ·rw[Qo k6]at g;have X:Hid (∀ x,_):=λx=>JW lz x j
  have T:Hid (fU lz (l9 lz+1)<=dA):=Bj _ _;have Y:Hid (∀ (x:World) (m:Nat),m<=dA->_):=λx m hm=>ai7 x A m n hm;generalize fU lz (l9 lz+1)=wk at *;clear t y j n hz S;have E:=Zh k6;clear k6;rcases E.o with h | h
  ·subst h;clear E;go_wp2;refine wH u λa=>?_
   refine wt 0 (.pointer (some (aD F.heap.size 5))) a ?_;refine l8 1 (.int .u64 (A:Int)) a n5 ?_;refine wt 2 (.int .u64 (lz:Int)) a ?_;refine wR 3 λK b=>?_;go_simp;refine Z5 (X.o _) ?_;rintro e P ⟨rfl,rfl⟩;refine b.o _ _ a λa=>?_;clear b K;refine wR 4 λK b=>?_;go_simp;refine oA b a λa=>?_;clear b K;refine wR 5 λK b=>?_;go_simp;refine Z5 (Y.o u.drew wk T.o) ?_;rintro e w6 ⟨rfl,f⟩;refine b.o _ _ ((((Qm _ _).drew).trans (f.mono (by simp)))) (λa=>?_);clear b K;refine wR 6 λK b=>?_;go_simp;refine b.o _ _ a λa=>?_;clear b K;refine wD ?_;try simp only[pU]
   have q:=Zh (aF v.o a);rw[<- g.o];clear a f g;go_wp2;go_ret;exact⟨rfl,q.o⟩
  ·subst h;clear E;go_wp2;refine wH u λa=>?_
   refine wt 0 (.pointer (some (aD F.heap.size 5))) a ?_;refine l8 1 (.int .u64 (A:Int)) a n5 ?_;refine wt 2 (.int .u64 (lz:Int)) a ?_;refine wR 3 λK b=>?_;go_simp;refine Z5 (X.o _) ?_;rintro e P ⟨rfl,rfl⟩;refine b.o _ _ a λa=>?_;clear b K;refine wR 4 λK b=>?_;go_simp;refine oA b a λa=>?_;clear b K;refine wR 5 λK b=>?_;go_simp;refine Z5 (Y.o u.drew wk T.o) ?_;rintro e w6 ⟨rfl,f⟩;refine b.o _ _ ((((Qm _ _).drew).trans (f.mono (by simp)))) (λa=>?_);clear b K;refine wR 6 λK b=>?_;go_simp;refine b.o _ _ a λa=>?_;clear b K;refine wD ?_;try simp only[pU]
   have q:=Zh (aF v.o a);rw[<- g.o];clear a f g;go_wp2;go_ret;exact⟨rfl,q.o⟩
 rw[Qu k6]at g;have aC:(k==6)=false:=by simp; omega
 have aG:(k==10)=false:=by simp; omega
 by_cases k7:k=7
 ·rw[Qo k7]at g;subst k7;have I:=ai8 u A lz lz n j j;rw[<- g.o]at I;clear t y j n hz S k6 g;go_wp2_with fail;refine I.mono ?_;clear I;rintro e w4 ⟨rfl,z⟩;have q:=Zh (aF v.o z);clear z;go_wp2;go_ret;exact⟨rfl,q.o⟩
 rw[Qu k7]at g;have aI:(k==7)=false:=by simp; omega
 have J:=ai7 u A lz n j;rw[<- g.o]at J;clear t y j n hz S k6 k7 g;go_wp2_with fail;refine J.mono ?_;clear J;rintro e w4 ⟨rfl,z⟩;have q:=Zh (aF v.o z);clear z;go_wp2;go_ret;exact⟨rfl,q.o⟩
theorem IP(h:s<2 ^ n)(hi:i∈bB s):i<n:=by unfold bB at hi;grind [Nat.testBit_lt_two_pow,Nat.lt_of_lt_of_le,Nat.pow_le_pow_right]
theorem CJ(h:iP ts q l s=true):bu q.wh.length l:=λx b=>by
 unfold iP at h;rw[Qk]at h;have d:∀ i,i<l.length->(if i=0 then -1 else l.getD (i-1) 0)<l.getD i 0/\l.getD i 0<q.wh.length:=λi a=>by simp_all
 have f:∀ i,i<l.length->0<=l.getD i 0:=by
  intro i
  induction i with
  | zero => grind
  | succ i ih =>
   grind
 obtain⟨i,a,e⟩:=Qp b;grind
theorem uO(g:Nat->Nat):∀ (l:List Nat) (m:Nat),l.foldl (λx c=>x / g c) m<=m
 | [],m => Qn _
 | a::l,m => by rw[QD];exact Q6 (uO g l _) (Nat.div_le_self _ _)
theorem ab0(ts:List af)(q:ae)(s c:Nat):iD ts q s c<=dA:=by
 unfold iD;have a:=pM ((bB s).map λ(k:Nat)=>qI ts q.src.xs (k:Int)) 1 (by grind [dA]);split
 ·omega
 ·have:=uO (λc=>kE ts q.src.xs (q.wh.getD c lz).cs) (bB c) (((bB s).map λ(k:Nat)=>qI ts q.src.xs (k:Int)).foldl fU 1);omega
theorem ab1(k:Int)(s lc ls rc rs:Nat):dL k s lc ls rc rs<=dA:=by grind [dL,zD]
theorem Rj{n:ah}{l r:bK}(hs:gK n i=true)(hf:dh ts q n l r=true):bu q.wh.length n.cl.xs/\(n.kind=1->0<=n.source/\n.source<q.src.xs.length):=by
 have b:nN n=true:=by unfold gK at hs;simp_all
 have d:(n.kind=2∨3<=n.kind/\n.kind<=5)∨n.cl.xs=[]:=by unfold nN at b;grind
 unfold dh at hf;constructor
 ·rcases d with h | h
  ·rw[Qu (by omega)]at hf;by_cases k2:n.kind=2
   ·rw[Qo k2,Qj]at hf;exact CJ hf.2
   rw[Qu k2]at hf;have a:kP ts q n l.sources r.sources=true:=by grind
   unfold kP at a;rw[Qj]at a;exact CJ a.2
  ·rw[h];exact λx e=>by cases e
 grind
section
def uP(s k:Nat):List Nat:=(List.range k).filter λi=>s.testBit i
theorem Mo(s k:Nat):uP s (k+1)=uP s k++if s.testBit k=true then [k] else []:=by unfold uP;rw[QM,List.filter_append];cases h:s.testBit k <;> simp[h]
theorem Rk(s:Nat){k:Nat}(hk:k<=64):uP s k <+: bB s:=by
 have e:List.range 64=List.range k++(List.range (64-k)).map (k + ·):=by rw[<- List.range_add];congr 1;omega
 unfold uP bB;grind
theorem Rl(s:Nat){k:Nat}(hk:k<=64)(h:s / 2 ^ k=0):uP s k=bB s:=by
 symm;refine JM hk _ (λi d=>?_);have b:s<2 ^ k:=by
  rcases Z0 s (2 ^ k) with a | a
  ·exact a
  ·have:=Nat.div_pos a (ZU (by omega));omega
 exact QG (QH b (QI (by omega) d))
theorem Rm(hs:s<18446744073709551616)(h:s / 2 ^ k≠0):k<64:=by
 rcases Z0 k 64 with a | a
 ·exact a
 ·exfalso;apply h;apply Nat.div_eq_of_lt;exact QH hs (QI (n:=2) (by omega) a)
attribute [local go_sem] Oper.semAt_some
theorem sO(s:Nat)(hs:s<18446744073709551616)(w0:World):anS lX Tryz.prog 51 (.int .u64 (s:Int)) (bB s) w0:=by
 intro l J W o Y Z hJ U V;have H:=Zh U;have v:Hid _:=@Mo s;have w:Hid _:=@Rk s;have y:Hid _:=@Rl s;have I:Hid (∀ n x,n<64->_):=λn x X=>P7 s n hs X x;have K:Hid (∀ k,s / 2 ^ k≠0->k<64):=λk h=>Rm hs h;have z:Hid (uP s 0=[]):=rfl;generalize uP s=RT at *;refine(Z9 (n:=0)).1 (callsIn_of_wp Tryz.func51 rfl trivial ?_ rfl);simp only[Tryz.ntmps51,List.size_toArray,QV,Xa,Nat.reduceAdd,Nat.reduceSub,Array.replicate_succ,Array.replicate_zero,List.push_toArray,List.append_toArray,List.nil_append,List.cons_append];gi_wp2;gi_loopw [4] (λi wr=>∃ k:Nat,k<=64/\i=.int .i64 k/\∃ g,Hid (J (RT k) g wr)/\Hid (Kept (λb=>¬ o b) W wr)/\Hid (∀ b,g b->o b∨(W.heap.size<=b/\b<wr.heap.size)))
  (λi _=>64-(intOf i).toNat)
 case atStart=>exact⟨0,QK _,rfl,o,by rw[z.o]; exact V,Q5 _ _,λb h=>.inl h⟩
 case round=>
  obtain⟨k,Q,rfl,g,f,m,a⟩:=hrel;by_cases hz:s / 2 ^ k=0
  ·have L:=Zh (y.o Q hz);have A:((s:Int) / 2 ^ k != 0)=false:=by grind
   gi_wp2;go_end0;exact⟨⟨_,rfl⟩,bB s,g,by simp[lX],by rw[<- L.o]; exact f.o,m.o,a.o⟩
  ·have B:=K.o k hz;have A:((s:Int) / 2 ^ k != 0)=true:=by grind
   have r:=Zh (v.o k);have M:Hid (RT (k+1) <+: bB s):=w.o (by omega);have t:=I.o k wr B
   cases q:s.testBit k with
   | false =>
    rw[q]at t r;gi_wp2;refine⟨trivial,rfl,Z9.2 (t.mono ?_)⟩;rintro e G ⟨rfl,rfl⟩;gi_wp2;refine⟨(λ_ h=>by cases h),?_⟩;gi_wp2;go_roundw
    case rel=>exact⟨k+1,by omega,by go_num,g,by have h:RT (k+1)=RT k++[]:=r.o; rw[h,Xb]; exact f.o,m.o,a.o⟩
    case measure=>simp[intOf]; omega
   | true =>
    rw[q]at t r;have j:Hid (RT (k+1)=RT k++[k]):=r.o;obtain⟨R,tmps,d,p,hy,S⟩:=H.o (RT k) k g wr f.o (by rw[<- j.o]; simpa [lX] using M.o) trivial (λb h=>by cases h) m.o.size;have N:(Instr.yield l #[.int .i64 (k:Int)]).run Tryz.prog wr=.ok (.round l R tmps d p) wr:=hy;gi_wp2;refine⟨trivial,rfl,Z9.2 (t.mono ?_)⟩;rintro e G ⟨rfl,rfl⟩;gi_wp2;refine⟨rfl,S.mono ?_⟩;rintro e G ⟨rfl,T,C,D,E⟩;have O:=Zh C;have F:=Zh D;have P:=Zh E;gi_wp2;go_roundw
    case rel=>
     refine⟨k+1,by omega,by go_num,T,by rw[j.o]; exact O.o,m.o.trans' F.o ?_,?_⟩
     ·intro b q h u;rcases a.o b u with u | u
      ·exact h u
      ·omega
     ·intro b q;have:=F.o.size;have:=m.o.size;rcases P.o b q with h | h | h
      ·rcases a.o b h with h | h
       ·exact .inl h
       ·exact .inr ⟨h.1,by omega⟩
      ·exact .inr ⟨by omega,h.2⟩
      ·cases h.1
    case measure=>simp[intOf]; omega
end
theorem xG(n:Nat)(hn:n<=64)(w:World) :
  Ce 54 #[.int .i64 (n:Int)] w (.int .u64 ((2 ^ n-1:Nat):Int)):=by
 rcases Z0 n 64 with h | h
 ·exact Mh n h w
 ·obtain rfl:n=64:=by omega
  go_enter Tryz.func54,Tryz.ntmps54;go_wp2;go_ret;exact⟨rfl,rfl⟩
theorem Ro{P:Program}{Q:Exit->Act->World->Prop}{l:Nat}(hd:∀ o∈ops,∀ c,o.op ≠ .defer c){K K':Act->World->Prop}(hK:∀ a w,K a w->K' a w){a:Act}{w:World}(h:wpOpIn Fence.wide 0 P ops Q i K a w):wpOpIn (Fence.wide.inRound l) 0 P ops Q i K' a w:=by
 unfold wpOpIn at *
 cases ho:ops[i]? with
 | none => simp_all
 | some o =>
  rw[ho]at h;simp only at *;have f:=Array.mem_of_getElem? ho;by_cases g:Region.wanted o (yielded ops a.tmps)=true
  ·rw[Qo g]at *;unfold Oper.wpIn at *;refine⟨h.1,?_⟩;have b:=h.2;rw[Oper.semAt_plain Fence.wide _ _ (hd o f)]at b;rw[Oper.semAt_plain (Fence.wide.inRound l) _ _ (hd o f)];generalize Sem.run P (execOp a.eval o) w=r at *;unfold Oper.uponIn at *;split at b
   ·simp_all
   ·simp_all
   ·simp_all
   ·exact⟨b.1,b.2.mono (λe w' d=>by
     grind)⟩
   ·exact⟨b.1,b.2.mono (λv w' d=>hK _ _ d)⟩
   ·exact⟨b.1,b.2.mono (λe w' d=>by
     grind)⟩
   ·exact b
   omega
  simp_all
theorem uQ{P:Program}{md:Region.Mode}{ops:Array Oper}{Q:Exit->Act->World->Prop}{l:Nat}(hd:∀ o∈ops,∀ c,o.op ≠ .defer c):∀ (fuel:Nat) (listed:Array Bool) (a:Act) (w:World),
  wpAnyIn Fence.wide 0 P md ops Q fuel listed a w->wpAnyIn (Fence.wide.inRound l) 0 P md ops Q fuel listed a w
 | 0,_,_,_,h => h
 | fuel+1,listed,a,w,h => ⟨h.1,λi b => Ro hd (λd w' e => uQ hd fuel _ d w' e) (h.2 i b)⟩
def J5(ops:Array Oper):Bool:=ops.all λo=>match o.op with | .defer _=>false | _=>true
theorem sP(h:J5 ops=true):∀ o∈ops,∀ c,o.op ≠ .defer c:=by intro o a c b;unfold J5 at h;rw[Array.all_eq_true_iff_forall_mem]at h;grind
theorem step_append{P:Program}{ops:Array Oper}{o:Oper}{a:Act}{w:World}{K:Act->World->Prop}{Q:Exit->Act->World->Prop}{E:Prop}(hgd:o.guard=none)(s x:Operand)(t:TypeId)
  (ho:o.op=.call { callee:=.builtin .append,args:=#[s,x],argTypes:=#[t,t] }) (v u v':Value) (w':World) (hs:a.eval s=v) (hx:a.eval x=u)
  (hrun:(Builtin.append_ #[t,t] o.type #[v,u]).run P w=.ok v' w') (h:K (a.put o.dst v') w'):if Region.wanted o (yielded ops a.tmps)=true then Oper.wp P o a w K Q else E:=by
 have b:Region.wanted o (yielded ops a.tmps)=true:=by simp[Region.wanted,hgd]
 rw[Qo b];unfold Oper.wp;simp[execOp,ho,resolve,invoke,builtin,hs,hx,hrun,Result.andThen];exact h
def Xc:=@step_append
section
theorem yh{α:Type}{pre l:List α}{x:α}(h:pre++[x] <+: l):x∈l:=h.subset (by simp)
structure GH(w2:World)(t:TypeId)(X:Nat)(o1:Nat->Prop)(W:World):Prop where
 g:GB W w2.heap.size t #[.int .u64 (X:Int)]
 below:Bw w2 W
 iff:∀ b,o1 b↔b=w2.heap.size
theorem GH.keep{w2:World}{t:TypeId}{X:Nat}{o1:Nat->Prop}{A B:World}{n:Nat}(h:GH w2 t X o1 A)(hn:w2.heap.size<=n)(hk:Kept (λb=>o1 b∨b<n) A B):GH w2 t X o1 B:=
 ⟨h.g.keep hk (.inl ((h.iff _).2 rfl)),h.below.trans (hk.below h.below.size (λb a=>.inr (by omega))),h.iff⟩
theorem GH.step{w2:World}{X Y:Nat}{o1:Nat->Prop}(h:GH w2 t X o1 W):GH w2 t Y o1 (W.drew.setCell (aD w2.heap.size 0) (.int .u64 (Y:Int)))/\Kept (λb=>¬ o1 b) W (W.drew.setCell (aD w2.heap.size 0) (.int .u64 (Y:Int))):=by have d:Kept (λb=>b≠w2.heap.size) W (W.drew.setCell (aD w2.heap.size 0) (.int .u64 (Y:Int))):=(Q7 ((Qm W.heap.size W).drew) (λb a _=>a)).trans (Zf _ _ _ (λh=>h rfl));exact⟨⟨(h.g.keep (Q7 (s:=λ_=>True) ((Qm W.heap.size W).drew) (λb a _=>a)) trivial).set 0 _,h.below.trans (d.below h.below.size (λb a=>Nat.ne_of_lt a)),h.iff⟩,d.mono λb _ a e=>a ((h.iff b).2 e)⟩
attribute [local go_sem] Oper.semAt_some
theorem Mq(f:aC)(ts:List af)(q:ae)(p:aH)(ao:Option Addr)(pl cap:Nat)(w:World)(ok:Ok ts q)(hf:f.At ts q w)(hs:p.sources<2 ^ q.src.xs.length)(hc:p.clauses<2 ^ q.wh.length)(hk:dW p.kind=false) :
  Cb 109 #[.agg (f.cells ts q),.agg p.cells,.slice ao pl cap] w (.int .u64 ((iD ts q p.sources p.clauses:Nat):Int)):=by
 have aV:p.sources<18446744073709551616:=QH hs (QI (n:=2) (by omega) ok.small);have Rp:p.clauses<18446744073709551616:=QH hc (QI (n:=2) (by omega) ok.oG);have bH:Hid (∀ x∈bB p.sources,x<q.src.xs.length):=λx t=>IP hs t;have bI:Hid (∀ x∈bB p.clauses,x<q.wh.length):=λx t=>IP hc t;have V:=Zh (sO p.sources aV);have Z:=Zh (sO p.clauses Rp);have HR:Hid _:=hf.rows;have HP:Hid _:=hf.parts;have aW:=Zh (VU ts q);have CO:=Zh (Iy ts q);have Gt:Hid (∀ x,x<q.src.xs.length->(CG ts q).getD x 0<=dA):=λx t=>by rw[Iz ts q t];obtain⟨h0,h1⟩:=zG ok.src (k:=x) t;have ht:=zw ok.cat (i:=(q.src.xs.getD x 0).toNat) (by omega);unfold fB at ht;rw[Qs]at ht;unfold qI dA;rw[ZY];omega
 have aa:Hid (∀ x,x<q.wh.length->1<=(xD ts q).getD x 0/\(xD ts q).getD x 0<=1000000):=λx t=>by rw[Bo ts q t];exact abS ok.cat ok.src (ok.aX x t)
 obtain⟨X,bf,bg,m,bq⟩:∃ X:List Nat->Nat,X []=1/\(∀ pre x,x<q.src.xs.length->X (pre++[x])=fU (X pre) ((CG ts q).getD x 0))/\(∀ pre,X pre<=dA)/\X (bB p.sources)=((bB p.sources).map λ(k:Nat)=>qI ts q.src.xs (k:Int)).foldl fU 1:=
  ⟨λpre=>(pre.map λ(k:Nat)=>qI ts q.src.xs (k:Int)).foldl fU 1,rfl,λpre x t=>by simp only[Qi,ZP]; rw[Iz ts q t]; rfl,λpre=>pM _ 1 (by unfold dA; omega),rfl⟩
 obtain⟨F,O⟩:=eX (X (bB p.sources));obtain⟨Y,bu,bz,aK,bA⟩:∃ Y:List Nat->Nat,Y []=F/\(∀ pre x,x<q.wh.length->Y (pre++[x])=Y pre / (xD ts q).getD x 0)/\(∀ pre,Y pre<=dA)/\Y (bB p.clauses)=(bB p.clauses).foldl (λx c=>x / kE ts q.src.xs (q.wh.getD c lz).cs) F:=
  ⟨λpre=>pre.foldl (λx c=>x / kE ts q.src.xs (q.wh.getD c lz).cs) F,rfl,λpre x t=>by simp only[ZP]; rw[Bo ts q t]; rfl,λpre=>Q6 (uO _ pre F) (by rw[<- O]; exact m _),rfl⟩
 obtain⟨R,hR⟩:=eY (iD ts q p.sources p.clauses);have lY:Hid (R=if F=0 then 0 else max (Y (bB p.clauses)) 1):=by show R=_;rw[hR];unfold iD;rw[<- bq,O,bA]
 rw[<- hR];clear hR;have ag:=Zh bf;have ah:=Zh bg;have bJ:=Zh m;have bK:=Zh O;have ai:=Zh bu;have aj:=Zh bz;have ak:=Zh aK;clear bf bg m bq O bu bz aK bA;have au:=λx=>zC p.kind x;rw[hk]at au;obtain⟨v0,v1,v2,v3,v4,v5,v6,v7,v8,v9,aL,aM,aN,bR,-,-,-,-,-,-,-,-,-,-,bC,-,aO⟩:=Z6 f ts q;rw[bR];rw[hf.pl]at aO;rw[Wl];clear hk hs hc aV Rp bR ok hf;generalize CG ts q=RL at *;generalize xD ts q=PL at *;generalize bB p.sources=SL at *;generalize bB p.clauses=CL at *;obtain⟨kind,ps,pc,ord,aP,aQ⟩:=p;simp only at *;generalize ord.val=od at *;obtain⟨U,bZ,bD,aR⟩:=bn w #[v0,v1,v2,v3,v4,v5,v6,v7,v8,v9,aL,aM,aN] 68;obtain⟨P,cu,Q,S⟩:=bn U #[.int .i64 kind,.int .u64 (ps:Int),.int .u64 (pc:Int),od,.int .u64 (aP:Int),.int .u64 (aQ:Int)] 73;have av:=Q;have aY:=aF bD av;have fH:=aR.of (av.block _ aR.lt);have dR:=fH.at 10;have dS:=fH.at 12;have lM:=S;obtain⟨kS,mG,mH⟩:=lM.k3;rw[bC]at dR;rw[aO]at dS;clear bC aO;obtain⟨w3,bE,aS,bF⟩:=bn P #[.int .u64 1] 35;have M:Hid (w3.heap.size=P.heap.size+1):=by rw[<- bE]; show _=_; simp
 have J:=Zh aY;have xE:=Zh aS;have Du:Hid _:=bF;have b1:=cB aS mG;have bL:=Zh dR;have bM:=Zh dS;have bN:=Zh mH;clear bD Q aR S fH lM aY av aS bF dR dS mH mG;refine(Z9 (n:=0)).1 (callsIn_of_wp_marks Tryz.func109 rfl trivial ?_ rfl);simp only[Tryz.ntmps109,List.size_toArray,QV,Xa,Nat.reduceAdd,Nat.reduceSub,Array.replicate_succ,Array.replicate_zero,List.push_toArray,List.append_toArray,List.nil_append,List.cons_append];gi_wp2;refine⟨trivial,rfl,Z9.2 ((au _).mono ?_)⟩;rintro e W ⟨rfl,ax⟩;have ax:=ax.symm;subst ax;clear au;gi_wp2;clear b1 kS bZ cu bE;refine vT lX (gf:=51) (s:=.int .u64 (ps:Int)) rfl (enters_of Tryz.func51 (by kernel_rfl) rfl) (V.o P) xE.o rfl
  (λpre u W=>GH P 35 (X pre) u W) (λb=>b=P.heap.size) ?_ ?_ ⟨by rw[ag.o]; exact Du.o,xE.o,λ_=>Iff.rfl⟩
  (λx=>{ tmps:=#[.agg #[v0,v1,v2,v3,v4,v5,v6,v7,v8,v9,aL,aM,aN],.agg #[.int .i64 kind,.int .u64 (ps:Int),.int .u64 (pc:Int),od,.int .u64 (aP:Int),.int .u64 (aQ:Int)],.slice ao pl cap,.pointer (some (aD w.heap.size 0)),.pointer (some (aD U.heap.size 0)),undef,.int .u64 0,.pointer (some (aD P.heap.size 0)),.int .i64 (x:Int),undef,undef,.pointer (some (aD U.heap.size 0)),.int .i64 kind,.bool false,undef,undef,undef,undef,.pointer (some (aD U.heap.size 1)),.int .u64 (ps:Int),.func (.func 51) #[.int .u64 (ps:Int)] #[],.int .i64 (x:Int),undef,undef,undef,undef,undef,undef,undef,undef,undef,undef,undef,undef,undef,undef,undef,undef,undef,undef,undef,undef,undef,undef,undef],defers:=[] }) ?assign ?body ?done
 ·rintro b rfl;exact⟨Qn _,by have:=M.o; omega⟩
 ·intro pre u A B h hk;exact h.keep (by have:=M.o; omega) hk
 case assign=>
  intro l x W K a;have he:lX.enc x=.int .i64 (x:Int):=rfl;gi_wp2;exact a
 case body=>
  intro l pre x u W d r t I aU;have j:=bH.o x (yh (by simpa [lX] using r));have C:=J.o.trans (d.below.mono J.o.size);obtain⟨rb,ro,G,H⟩:=gF.get (gF.below C HR.o) (i:=x) (by rw[aW.o]; exact j);have bO:=H x (by rw[aW.o]; exact j);have z:=Zh (ah.o pre x j);have ay:=Gt.o x j;have m:=bJ.o pre;have bP:=d.g.at 0;have bQ:=d.g.frozen 0;have az:=cB d.below bL.o;rw[G]at az;have HI:=Zh d;clear H r t I aU d C G;generalize RL.getD x 0=rn at *;have hT:=λy=>xX (X pre) rn y m ay;rw[<- z.o]at hT;have mR:Hid (∀ act,xW lX (λpre u W=>GH P 35 (X pre) u W) pre x w3.heap.size u W .normal act (W.drew.setCell (aD P.heap.size 0) (.int .u64 (X (pre++[x]):Int)))):=λ_=>⟨u,HI.o.step.1,HI.o.step.2,λb hb=>.inl hb⟩;clear ay m z;generalize X (pre++[x])=Xn at *;generalize X pre=Xp at *;gi_wp2_with fail;have aA:Tryz.prog.follows .mixedOrders=true:=by kernel_rfl
  refine wpIn_region_any aA (uQ (sP (by kernel_rfl)) _ _ _ _ ?_);change wpAnyIn _ _ _ _ _ _ _ _ _ (World.drew _);refine wpAnyIn_take (i:=1) (v:=.pointer (some (aD w.heap.size 10))) rfl rfl (by kernel_rfl) (by kernel_rfl) (by kernel_rfl) (λ_ _ _ h=>h) ⟨Or.inl ⟨by rfl,λw=>by go_simp⟩,λ_=>rfl⟩ ?_;refine wpAnyIn_take (i:=3) (v:=.int .i64 (x:Int)) rfl rfl (by kernel_rfl) (by kernel_rfl) (by kernel_rfl) (λ_ _ _ h=>h) ⟨Or.inl ⟨by rfl,λw=>by go_simp⟩,λ_=>rfl⟩ ?_;refine Xd (rs:=[0,2]) (by kernel_rfl) (by simp) ?_;refine Xe rfl (λK a=>?_) ?_
  ·skip;go_simp;refine a _ _ ?_;clear a K;refine Xd (rs:=[2]) (by kernel_rfl) (by simp) ?_;refine Xe rfl (λK a=>?_) Xf;go_simp;refine a _ _ ?_;clear a K;refine wpAnyIn_take (i:=4) (v:=.pointer (some (aD rb (ro+x)))) rfl rfl (by kernel_rfl) (by kernel_rfl) (by kernel_rfl) (λ_ _ _ h=>h) ⟨Or.inl ⟨by rfl,λw=>by go_simp⟩,λ_=>rfl⟩ ?_;refine Xd (rs:=[5]) (by kernel_rfl) (by simp) ?_;refine Xe rfl (λK a=>?_) Xf;go_simp;refine a _ _ ?_;clear a K;refine Xd (rs:=[6]) (by kernel_rfl) (by simp) ?_;refine Xe rfl (λK a=>?_) Xf;go_simp;refine⟨trivial,rfl,Z9.2 ((hT _).mono ?_)⟩;rintro e Wt ⟨rfl,rfl⟩;refine a _ _ ?_;clear a K;refine Xd (rs:=[7]) (by kernel_rfl) (by simp) ?_;refine Xe rfl (λK a=>?_) Xf;go_simp;refine a _ _ ?_;clear a K;refine wpAnyIn_done (by kernel_rfl) ?_ _;exact mR.o ⟨#[],[]⟩
  refine Xe rfl (λK a=>?_) Xf;go_simp;refine a _ _ ?_;clear a K;refine wpAnyIn_take (i:=4) (v:=.pointer (some (aD rb (ro+x)))) rfl rfl (by kernel_rfl) (by kernel_rfl) (by kernel_rfl) (λ_ _ _ h=>h) ⟨Or.inl ⟨by rfl,λw=>by go_simp⟩,λ_=>rfl⟩ ?_;refine Xd (rs:=[0,5]) (by kernel_rfl) (by simp) ?_;refine Xe rfl (λK a=>?_) ?_
  ·skip;go_simp;refine a _ _ ?_;clear a K;refine Xd (rs:=[5]) (by kernel_rfl) (by simp) ?_;refine Xe rfl (λK a=>?_) Xf;go_simp;refine a _ _ ?_;clear a K;refine Xd (rs:=[6]) (by kernel_rfl) (by simp) ?_;refine Xe rfl (λK a=>?_) Xf;go_simp;refine⟨trivial,rfl,Z9.2 ((hT _).mono ?_)⟩;rintro e Wt ⟨rfl,rfl⟩;refine a _ _ ?_;clear a K;refine Xd (rs:=[7]) (by kernel_rfl) (by simp) ?_;refine Xe rfl (λK a=>?_) Xf;go_simp;refine a _ _ ?_;clear a K;refine wpAnyIn_done (by kernel_rfl) ?_ _;exact mR.o ⟨#[],[]⟩
  refine Xe rfl (λK a=>?_) Xf;go_simp;refine a _ _ ?_;clear a K;refine Xd (rs:=[0]) (by kernel_rfl) (by simp) ?_;refine Xe rfl (λK a=>?_) Xf;go_simp;refine a _ _ ?_;clear a K;refine Xd (rs:=[6]) (by kernel_rfl) (by simp) ?_;refine Xe rfl (λK a=>?_) Xf;go_simp;refine⟨trivial,rfl,Z9.2 ((hT _).mono ?_)⟩;rintro e Wt ⟨rfl,rfl⟩;refine a _ _ ?_;clear a K;refine Xd (rs:=[7]) (by kernel_rfl) (by simp) ?_;refine Xe rfl (λK a=>?_) Xf;go_simp;refine a _ _ ?_;clear a K;refine wpAnyIn_done (by kernel_rfl) ?_ _;exact mR.o ⟨#[],[]⟩
 case done=>
  rintro ys o' L aT d Q S hD;have aB:ys=SL:=by simpa [lX] using aT
  subst aB;rw[bK.o]at d;have aZ:=d.g.at 0;have D:=d.below;have bS:=Zh hD;have E:=Zh ((Zb.1 hD).1);by_cases h0:F=0
  ·have bT:Hid (R=0):=by show R=0; rw[lY.o,Qo h0]
   subst h0;clear ah aj lY V Z HP HR Gt aa ag ai Du;gi_wp2;refine⟨by simp,.inl ⟨_,_,rfl,run_takeDeferred hD,?_⟩⟩;refine⟨_,results_tmp rfl _ _ _,by rw[bT.o]; rfl,?_⟩;exact J.o.trans (((D.mono J.o.size)).trans ((Q8 (s:=λb=>b<w.heap.size) _ _ (by have:=J.o.size; have:=M.o; omega)).below (Q6 J.o.size D.size) (λ_ h=>h)))
  ·have bU:Hid (R=max (Y CL) 1):=by show R=_; rw[lY.o,Qu h0]
   have bV:((F:Int)==0)=false:=by rw[Z4]; omega
   obtain⟨W3,T⟩:∃ x,L.alloc (.cells #[.int .u64 (F:Int)] 35)=x:=⟨_,rfl⟩;have GI:Bw L W3:=by rw[<- T]; exact fq _ _
   have bW:Hid (GB W3 L.heap.size 35 #[.int .u64 (F:Int)]):=by rw[<- T]; exact qH _ _
   have N:Hid (W3.heap.size=L.heap.size+1):=by rw[<- T]; show _=_; simp
   have c2:=cB GI (cB D bN.o);have uR:=Zh GI;have aG:=Zh D;clear h0 ah V lY HR Gt ag Du Q S hD d GI D;gi_wp2;clear c2 aZ T bV;refine vT lX (gf:=51) (s:=.int .u64 (pc:Int)) rfl (enters_of Tryz.func51 (by kernel_rfl) rfl) (Z.o L) uR.o rfl
    (λpre u W=>GH L 35 (Y pre) u W) (λb=>b=L.heap.size) ?_ ?_ ⟨by rw[ai.o]; exact bW.o,uR.o,λ_=>Iff.rfl⟩
    (λx=>{ tmps:=#[.agg #[v0,v1,v2,v3,v4,v5,v6,v7,v8,v9,aL,aM,aN],.agg #[.int .i64 kind,.int .u64 (ps:Int),.int .u64 (pc:Int),od,.int .u64 (aP:Int),.int .u64 (aQ:Int)],.slice ao pl cap,.pointer (some (aD w.heap.size 0)),.pointer (some (aD U.heap.size 0)),undef,.int .u64 0,.pointer (some (aD P.heap.size 0)),undef,.pointer (some (aD L.heap.size 0)),.int .i64 (x:Int),.pointer (some (aD U.heap.size 0)),.int .i64 kind,.bool false,undef,undef,undef,undef,.pointer (some (aD U.heap.size 1)),.int .u64 (ps:Int),.func (.func 51) #[.int .u64 (ps:Int)] #[],undef,undef,undef,undef,undef,undef,undef,undef,.int .u64 (F:Int),.bool false,.int .u64 (F:Int),.pointer (some (aD U.heap.size 2)),.int .u64 (pc:Int),.func (.func 51) #[.int .u64 (pc:Int)] #[],.int .i64 (x:Int),undef,undef,undef,undef,undef,undef,undef,undef,undef],defers:=[] }) ?afo ?anU ?anV
   ·rintro b rfl;exact⟨Qn _,by have:=N.o; omega⟩
   ·intro pre u A B h hk;exact h.keep (by have:=N.o; omega) hk
   case afo=>
    intro l x W K a;have he:lX.enc x=.int .i64 (x:Int):=rfl;gi_wp2;exact a
   case anU=>
    intro l pre x u W d r t I aU;have j:=bI.o x (yh (by simpa [lX] using r));have aI:=aG.o.trans (d.below.mono aG.o.size);have C:=J.o.trans (aI.mono J.o.size);obtain⟨rb,ro,G,H⟩:=gF.get (gF.below C HP.o) (i:=x) (by rw[CO.o]; exact j);have bO:=H x (by rw[CO.o]; exact j);have z:=Zh (aj.o pre x j);obtain⟨dw,ay⟩:=aa.o x j;have m:=ak.o pre;have bP:=d.g.at 0;have bQ:=d.g.frozen 0;have az:=cB aI bM.o;rw[G]at az;have HI:=Zh d;clear H r t I aU d C G aI;generalize PL.getD x 0=rn at *;have mR:Hid (∀ act,xW lX (λpre u W=>GH L 35 (Y pre) u W) pre x W3.heap.size u W .normal act (W.drew.setCell (aD L.heap.size 0) (.int .u64 (Y (pre++[x]):Int)))):=λ_=>⟨u,HI.o.step.1,HI.o.step.2,λb hb=>.inl hb⟩;have HQ:Hid (Y pre<=18446744073709551615):=m;generalize Y (pre++[x])=Xn at *;generalize Y pre=Xp at *;have cZ:((Xp:Int)).tdiv (rn:Int)=(Xn:Int):=by rw[z.o,Int.tdiv_eq_ediv_of_nonneg (by omega),Int.natCast_ediv]
    have df:IntKind.u64.wrap (Xn:Int)=(Xn:Int):=JQ (by have:=HQ.o; rw[z.o]; have:=Nat.div_le_self Xp rn; omega);have dh:¬ rn=0:=by omega
    clear m z;gi_wp2_with fail;have aA:Tryz.prog.follows .mixedOrders=true:=by kernel_rfl
    refine wpIn_region_any aA (uQ (sP (by kernel_rfl)) _ _ _ _ ?_);change wpAnyIn _ _ _ _ _ _ _ _ _ (World.drew _);refine wpAnyIn_take (i:=1) (v:=.pointer (some (aD w.heap.size 12))) rfl rfl (by kernel_rfl) (by kernel_rfl) (by kernel_rfl) (λ_ _ _ h=>h) ⟨Or.inl ⟨by rfl,λw=>by go_simp⟩,λ_=>rfl⟩ ?_;refine wpAnyIn_take (i:=3) (v:=.int .i64 (x:Int)) rfl rfl (by kernel_rfl) (by kernel_rfl) (by kernel_rfl) (λ_ _ _ h=>h) ⟨Or.inl ⟨by rfl,λw=>by go_simp⟩,λ_=>rfl⟩ ?_;refine Xd (rs:=[0,2]) (by kernel_rfl) (by simp) ?_;refine Xe rfl (λK a=>?_) ?_
    ·skip;go_simp;refine a _ _ ?_;clear a K;refine Xd (rs:=[2]) (by kernel_rfl) (by simp) ?_;refine Xe rfl (λK a=>?_) Xf;go_simp;refine a _ _ ?_;clear a K;refine wpAnyIn_take (i:=4) (v:=.pointer (some (aD rb (ro+x)))) rfl rfl (by kernel_rfl) (by kernel_rfl) (by kernel_rfl) (λ_ _ _ h=>h) ⟨Or.inl ⟨by rfl,λw=>by go_simp⟩,λ_=>rfl⟩ ?_;refine Xd (rs:=[5]) (by kernel_rfl) (by simp) ?_;refine Xe rfl (λK a=>?_) Xf;go_simp;refine a _ _ ?_;clear a K;refine Xd (rs:=[6]) (by kernel_rfl) (by simp) ?_;refine Xe rfl (λK a=>?_) Xf;go_simp;refine a _ _ ?_;clear a K;refine Xd (rs:=[7]) (by kernel_rfl) (by simp) ?_;refine Xe rfl (λK a=>?_) Xf;go_simp;refine a _ _ ?_;clear a K;refine wpAnyIn_done (by kernel_rfl) ?_ _;exact mR.o ⟨#[],[]⟩
    refine Xe rfl (λK a=>?_) Xf;go_simp;refine a _ _ ?_;clear a K;refine wpAnyIn_take (i:=4) (v:=.pointer (some (aD rb (ro+x)))) rfl rfl (by kernel_rfl) (by kernel_rfl) (by kernel_rfl) (λ_ _ _ h=>h) ⟨Or.inl ⟨by rfl,λw=>by go_simp⟩,λ_=>rfl⟩ ?_;refine Xd (rs:=[0,5]) (by kernel_rfl) (by simp) ?_;refine Xe rfl (λK a=>?_) ?_
    ·skip;go_simp;refine a _ _ ?_;clear a K;refine Xd (rs:=[5]) (by kernel_rfl) (by simp) ?_;refine Xe rfl (λK a=>?_) Xf;go_simp;refine a _ _ ?_;clear a K;refine Xd (rs:=[6]) (by kernel_rfl) (by simp) ?_;refine Xe rfl (λK a=>?_) Xf;go_simp;refine a _ _ ?_;clear a K;refine Xd (rs:=[7]) (by kernel_rfl) (by simp) ?_;refine Xe rfl (λK a=>?_) Xf;go_simp;refine a _ _ ?_;clear a K;refine wpAnyIn_done (by kernel_rfl) ?_ _;exact mR.o ⟨#[],[]⟩
    refine Xe rfl (λK a=>?_) Xf;go_simp;refine a _ _ ?_;clear a K;refine Xd (rs:=[0]) (by kernel_rfl) (by simp) ?_;refine Xe rfl (λK a=>?_) Xf;go_simp;refine a _ _ ?_;clear a K;refine Xd (rs:=[6]) (by kernel_rfl) (by simp) ?_;refine Xe rfl (λK a=>?_) Xf;go_simp;refine a _ _ ?_;clear a K;refine Xd (rs:=[7]) (by kernel_rfl) (by simp) ?_;refine Xe rfl (λK a=>?_) Xf;go_simp;refine a _ _ ?_;clear a K;refine wpAnyIn_done (by kernel_rfl) ?_ _;exact mR.o ⟨#[],[]⟩
   case anV=>
    rintro ys o' W4 aT d cz cK cO;have aB:CL=ys:=by symm; simpa [lX] using aT
    subst aB;have aZ:=d.g.at 0;have aJ:=d.below;have aK:=ak.o CL;have bX:Hid _:=bU;generalize Y CL=yv at *;obtain⟨rv,bG⟩:=eY (max yv 1);have di:max (yv:Int) 1=(rv:Int):=by omega
    have dm:max (1:Int) (yv:Int)=(rv:Int):=by omega
    have dn:(if (yv:Int)<1 then 1 else (yv:Int))=(rv:Int):=by split <;> omega
    have Dv:Hid (R=rv):=by show R=rv; rw[bG]; exact bX.o
    have bY:=(aJ.block _ E.o).trans bS.o;clear bG aj Z HP aa ai ak cz cK;gi_wp2;refine⟨by simp,.inl ⟨_,_,rfl,run_takeDeferred cO,?_⟩⟩;refine⟨by simp,.inl ⟨_,_,rfl,run_takeDeferred ((World.putObj_heap_other (by have:=E.o; have:=N.o; omega)).trans bY),?_⟩⟩;refine⟨_,results_tmp rfl _ _ _,by rw[Dv.o]; rfl,?_⟩;have s0:=J.o.size;have s3:=M.o;have s4:=N.o;have s5:=aJ.size;have s6:=E.o;refine J.o.trans (((aG.o.mono s0)).trans ((aJ.mono (by omega)).trans (((Q8 (s:=λb=>b<w.heap.size) _ _ (by omega)).below (by omega) (λ_ h=>h)).trans ((Q8 (s:=λb=>b<w.heap.size) _ _ (by omega)).below (by rw[World.putObj_size]; omega) (λ_ h=>h)))))
end
theorem Rq(f:aC)(ts:List af)(q:ae)(p:aH)(ao:Option Addr)(cap:Nat)(ps:List aH)(w:World)(hp:PartsAt w ao ps)(h0:0<ps.length)(hk:dW p.kind=true) :
  Cb 109 #[.agg (f.cells ts q),.agg p.cells,.slice ao ps.length cap] w (.int .u64 (((ps.getD 0 bE).size:Nat):Int)):=by obtain⟨⟨F,G,rfl,s,t,u,v,l,y⟩,-⟩:=hp.2 0 h0;rw[Z7,ZG]at l;have b:=λx=>zC p.kind x;rw[hk]at b;generalize f.cells ts q=FC at *;obtain⟨A,B,g,m⟩:=bn w FC 68;obtain⟨H,C,i,j⟩:=bn A p.cells 73;have d:=i;have a:=aF g d;have n:=j;have D:=n.at 0;have E:=cB a l;have r:=Zh a;generalize p.kind=k at *;generalize (ps.getD 0 bE).size=z at *;generalize p.cells=PC at *;clear hk hp s t u v l y g i m j n a d;go_enter Tryz.func109,Tryz.ntmps109;go_wp2_with fail;refine(b _).mono ?_;rintro e I ⟨rfl,rfl⟩;go_wp2;go_ret;exact⟨rfl,r.o⟩
theorem Rs(f:aC)(ts:List af)(q:ae)(p:aH)(ao:Option Addr)(cap:Nat)(ps:List aH)(w:World)(ok:Ok ts q)(hf:f.At ts q w)(hp:PartsAt w ao ps)(hs:p.sources<2 ^ q.src.xs.length)(hc:p.clauses<2 ^ q.wh.length)(h0:dW p.kind=true->0<ps.length) :
  Calls Tryz.prog 109 #[.agg (f.cells ts q),.agg p.cells,.slice ao ps.length cap] w λe w'=>e=.returned (.int .u64 (((if dW p.kind=true then (ps.getD 0 bE).size else iD ts q p.sources p.clauses):Nat):Int))/\Bw w w':=by
 cases hk:dW p.kind with
 | true =>
  rw[Qo rfl];exact Rq f ts q p ao cap ps w hp (h0 hk) hk
 | false =>
  rw[Qu (by simp)];exact Mq f ts q p ao ps.length cap w ok hf hs hc hk
theorem En(n:ah)(w:World)(h:n.kind=1->0<=n.source/\n.source<64) :
  Cb 108 #[.agg n.cells] w (.int .u64 (((if n.kind=1 then 2 ^ n.source.toNat else 0):Nat):Int)):=by
 obtain⟨l,y,d,f⟩:=bn w n.cells 75;have b:=d;have i:=f;have t:=i.at 0;have u:=i.at 3;have j:=Zh b;clear f i d b;generalize n.cells=NC at *;by_cases a:n.kind=1
 ·obtain⟨r,z⟩:=h a;obtain⟨s,m⟩:=ZV r;rw[Qo a];have p:=vS l.heap.size s (l.alloc (.cells #[.int .i64 (s:Int)] 3)) (by simp) (by omega);have q:2 ^ n.source.toNat=2 ^ s:=by rw[m]; rfl
  rw[q];obtain⟨R,g⟩:∃ R,R=2 ^ s:=⟨_,rfl⟩;rw[<- g]at p ⊢;clear q g;rw[m]at u;rw[a]at t;have v:Hid (Bw w (l.alloc (.cells #[.int .i64 (s:Int)] 3))):=j.o.trans ((fq _ _).mono j.o.size);clear h m a r z;go_enter Tryz.func108,Tryz.ntmps108;go_wp2_with fail;refine p.mono ?_;rintro e B ⟨rfl,rfl⟩;go_wp2;go_ret;exact⟨rfl,v.o⟩
 ·rw[Qu a];have A:(n.kind==1)=false:=by simp[a]
  generalize n.kind=k at *;go_enter Tryz.func108,Tryz.ntmps108;go_wp2;go_ret;exact⟨rfl,j.o⟩
theorem J6(ts:List af)(q:ae)(hk:k<cs.length):aB (fC ts q (aZ (cs.take (k+1))))=aB (fC ts q (aZ (cs.take k)))|||aB (fC ts q (aJ (cs.getD k cz))):=by rw[Gz hk];unfold fC;rw[Qi,QW]
theorem J7{c:Int}(h:c∈aZ (cs.take k)):c∈aZ cs:=by obtain⟨x,a,b⟩:=Q3.1 h;exact Q3.2 ⟨x,ZO a,b⟩
theorem J8(f:aC)(ts:List af)(q:ae)(ca:Option Addr)(cc:Nat)(cs:List aI)(w:World)(ok:Ok ts q)(hf:jf w f.ca (jK ts q))(hx:bZ w ca cs)(mF:iM ts q (aZ cs)) :
  Cb 55 #[.agg (f.cells ts q),.agg #[.slice ca cs.length cc]] w (.int .u64 ((aB (dQ ts q.src.xs cs):Nat):Int)):=by
 obtain⟨v0,v1,v2,v3,v4,v5,v6,v7,v8,v9,B,C,D,X,-⟩:=Z6 f ts q;obtain⟨w1,Y,Z,E⟩:=bn w ((f.cells ts q)) 68;obtain⟨w2,aD,aa,ag⟩:=bn w1 #[.slice ca cs.length cc] 84;have A:=aa;have t:=aF Z A;have fH:=E.of (A.block _ E.lt);have lM:=ag;have kS:=lM.at 0;obtain⟨eT,fI,eQ,fD,fJ,fQ,fM,iK,iI,iJ,dR,eH,dS⟩:=fH.k13 (by rw[X]; rfl);have G:=Zh ((hx.below t).2);have uj:Hid (∀ x i r k,k<cs.length->Bw w2 x->aM x i (aJ (cs.getD k cz))->Calls Tryz.prog 84 #[.agg (f.cells ts q),.slice i (aJ (cs.getD k cz)).length r] x λe w'=>e=.returned (.int .u64 ((aB (fC ts q (aJ (cs.getD k cz))):Nat):Int))/\Bw x w'):=
  λx i r k z hb h=>qX f ts q i r _ x ok (hf.below (aF t hb)) h (λc F=>mF c (Q3.2 ⟨_,Zr z,F⟩))
 have H:Hid (∀ x c,_):=λx c=>ui c x;have I:Hid (∀ k,k<cs.length->aB (fC ts q (aZ (cs.take (k+1))))=aB (fC ts q (aZ (cs.take k)))|||aB (fC ts q (aJ (cs.getD k cz)))):=λk z=>J6 ts q z;have UA:Hid (∀ k,aB (fC ts q (aZ (cs.take k)))<18446744073709551616):=λk=>(yf ok (λc F=>mF c (J7 F))).lt ok.small;have rJ:Hid (∀ k,k<cs.length->aB (fC ts q (aJ (cs.getD k cz)))<18446744073709551616):=λk z=>(yf ok (λc F=>mF c (Q3.2 ⟨_,Zr z,F⟩))).lt ok.small;have zH:Hid (aB (fC ts q (aZ (cs.take cs.length)))=aB (dQ ts q.src.xs cs)):=by show _=_; rw[QT]; rfl
 have J:Hid (aB (fC ts q (aZ (cs.take 0)))=0):=rfl;have aA:=hx.1;have HC:=Zh t;obtain⟨p,j⟩:∃ p:Nat->Nat,p=λk=>aB (fC ts q (aZ (cs.take k))):=⟨_,rfl⟩;obtain⟨y,u⟩:∃ y:aI->Nat,y=λc=>aB (fC ts q (aJ c)):=⟨_,rfl⟩;have qY:Hid (∀ k,k<cs.length->p (k+1)=p k|||y (cs.getD k cz)):=by rw[j,u]; exact I.o
 have L:Hid (∀ k,p k<18446744073709551616):=by rw[j]; exact UA.o
 have M:Hid (∀ k,k<cs.length->y (cs.getD k cz)<18446744073709551616):=by rw[u]; exact rJ.o
 have N:Hid (p cs.length=aB (dQ ts q.src.xs cs)):=by rw[j]; exact zH.o
 have O:Hid (p 0=0):=by rw[j]; exact J.o
 have Wn:Hid (∀ x i r k,k<cs.length->Bw w2 x->aM x i (aJ (cs.getD k cz))->Cb 84 #[.agg #[v0,v1,v2,v3,v4,v5,v6,v7,v8,v9,B,C,D],.slice i (aJ (cs.getD k cz)).length r] x (.int .u64 ((y (cs.getD k cz):Nat):Int))):=by rw[u,<- X]; exact uj.o
 rw[X]at Y ⊢;generalize aB (dQ ts q.src.xs cs)=R at *;go_enter Tryz.func55,Tryz.ntmps55;go_wp2;go_loopw [5,11] (λsv iv wr=>∃ k:Nat,k<=cs.length/\iv=.int .i64 k/\(∃ s:Nat,sv=.int .u64 (s:Int)/\Hid (s=p k))/\Bw w2 wr) (λ_ iv _=>cs.length-(intOf iv).toNat)
 case atStart=>exact⟨0,QK _,rfl,⟨0,rfl,O.o.symm⟩,Qm _ _⟩
 case round=>
  obtain⟨k,z,rfl,⟨s,rfl,hs⟩,d⟩:=hrel;by_cases n:k<cs.length
  ·obtain⟨cb,co,rfl,c0,c1,c2,c3,c4⟩:=G.o k n;have d0:=cB d c0;have d1:=cB d c1;have d2:=cB d c2;have d3:=cB d c3;have d4:=cB d c4;have HT:=Zh (qY.o k n);have P:s<18446744073709551616:=by rw[hs.o]; exact L.o k
   have Q:=M.o k n;have S:Hid (∀ x i r,_->_->_):=λx i r hb h=>Wn.o x i r k n hb h;rw[<- hs.o]at HT;generalize cs.getD k cz=c at *;have UE:=λx=>H.o x c;generalize y c=m at *;generalize aJ c=CC at *;obtain⟨wb,aG,ah,ai⟩:=bn wr #[.bool c.not,.int .i64 c.op,.int .i64 c.left,.bool c.const,.int .i64 c.right] 80;obtain⟨b0,b1,b2,b3,b4⟩:=ai.k5;have a:=aF d ah;have j0:=cB a eT;have j1:=cB a fI;have j2:=cB a eQ;have j3:=cB a fD;have j4:=cB a fJ;have j5:=cB a fQ;have j6:=cB a fM;have j7:=cB a iK;have j8:=cB a iI;have j9:=cB a iJ;have T:=cB a dR;have U:=cB a eH;have V:=cB a dS;have jo:=Zh a;obtain⟨aj,ak,v,au,av⟩:=c;unfold aI.val at *;simp only at *;go_wp2;refine wH wb λg=>?_;refine wt 0 (.int .u64 (s:Int)) g ?_;refine wT 1 (.agg #[v0,v1,v2,v3,v4,v5,v6,v7,v8,v9,B,C,D]) g (λx hx=>?_) ?_
   ·have e0:=l7 hx j0 j1 j2 j3 j4 j5 j6 j7 j8 j9 T U V;go_simp
   refine wT 2 (.agg #[.bool aj,.int .i64 ak,.int .i64 v,.bool au,.int .i64 av]) g (λx hx=>?_) ?_
   ·have e0:=cR5 hx b0 b1 b2 b3 b4;go_simp
   refine wR 3 λK l=>?_;go_simp;refine Z5 (UE _) ?_;rintro e w3 ⟨b,rfl,ax,ay⟩;refine oT l g ay λg=>?_;refine wR 4 λK l=>?_;go_simp;refine Z5 (S.o _ _ _ (aF jo.o g) ax) ?_;rintro e w4 ⟨rfl,az⟩;refine oT l g az λg=>?_;refine wR 5 λK l=>?_;go_simp;refine oA l g λg=>?_;refine wR 6 λK l=>?_;go_simp;refine Z5 (kW w4.heap.size s m _ (by simp) (by simp) P Q) ?_;rintro e w5 ⟨rfl,rfl⟩;refine l.o _ _ g λg=>?_;refine wR 7 λK l=>?_;go_simp;refine l.o _ _ g λg=>?_;refine wD ?_;try simp only[pU]
   have W:=Zh (aF jo.o g);go_wp2;go_roundw
   case rel=>exact⟨k+1,by omega,by go_num,⟨s|||m,rfl,HT.o.symm⟩,W.o⟩
   case measure=>simp[intOf]; omega
  ·obtain rfl:k=cs.length:=by omega
   have HV:=Zh (hs.o.trans N.o);have HB:=Zh (aF HC.o d);go_wp2;go_ret;exact⟨Qe (by rw[HV.o]),HB.o⟩
def lG(ts:List af)(q:ae)(l:List Int):Nat:=(l.map λc=>(lK ts q.src.xs c).toNat).foldl max 0
theorem CP(ts:List af)(q:ae)(hk:k<l.length):lG ts q (l.take (k+1))=max (lG ts q (l.take k)) (lK ts q.src.xs (l.getD k 0)).toNat:=by
 have e:l.getD k 0=l[k]:=by simp[List.getD,hk]
 unfold lG;rw[Qh hk,Qi,ZP,e];rfl
theorem Rt(ts:List af)(q:ae){cs:List aI}(h1:¬ 1<cs.length)(h0:0<cs.length)(hn:(cs.getD 0 cz).not=false)(h2:(cs.getD 0 cz).op≠1)(h3:(cs.getD 0 cz).op≠2):kE ts q.src.xs cs=lG ts q (aJ (cs.getD 0 cz)):=by unfold kE lG aJ;grind
theorem Wo(ok:Ok ts q)(h:iM ts q l)(k:Nat):lG ts q (l.take k)<=1000000:=by
 induction k with
 | zero => simp[lG]
 | succ k ih =>
  by_cases a:k<l.length
  ·rw[CP ts q a];obtain⟨b,e⟩:=h _ (Zr a (d:=0));have:=(zy ok.cat ok.src b e).2;omega
  ·rw[ZT (by omega)];rw[ZT (by omega)]at ih;exact ih
theorem Ru(f:aC)(ts:List af)(q:ae)(ca:Option Addr)(cc:Nat)(cs:List aI)(w:World)(ok:Ok ts q)(hf:jf w f.ca (jK ts q))(hx:bZ w ca cs)(h0:0<cs.length)(mF:iM ts q (aZ cs)) :
  Cb 56 #[.agg (f.cells ts q),.agg #[.slice ca cs.length cc]] w (.int .u64 ((kE ts q.src.xs cs:Nat):Int)):=by
 obtain⟨cb,co,rfl,c0,c1,c2,c3,c4⟩:=hx.2 0 h0;have aA:=hx.1;rw[Z7,ZG]at c0 c1 c2 c3 c4;have D:iM ts q (aJ (cs.getD 0 cz)):=λc hc=>mF c (Q3.2 ⟨_,Zr h0,hc⟩);have i:Hid _:=@Rt ts q cs;have l:Hid (kE ts q.src.xs cs=if cs.length≠1∨(cs.getD 0 cz).not=true then 2 else if (cs.getD 0 cz).op=1 then 3 else if (cs.getD 0 cz).op=2 then 10 else kE ts q.src.xs cs):=by
  show _=_;unfold kE
  repeat' split
  all_goals rfl
 generalize kE ts q.src.xs cs=R at *;generalize cs.getD 0 cz=c at *;obtain⟨b,op,left,a,right⟩:=c;simp only at *;obtain⟨w1,av,Q,S⟩:=bn w ((f.cells ts q)) 68;obtain⟨G,ax,H,T⟩:=bn w1 #[.slice (some (aD cb co)) cs.length cc] 84;obtain⟨L,ay,y,j⟩:=bn G #[.bool b,.int .i64 op,.int .i64 left,.bool a,.int .i64 right] 80;have g:=aF Q H;have E:=aF g y;have M:=aF H y;have d0:=cB g c0;have d1:=cB g c1;have d2:=cB g c2;have d3:=cB g c3;have d4:=cB g c4;have m0:G.cell? (aD w1.heap.size 0)=some (.slice (some (aD cb co)) cs.length cc):=T.cell 0;have aa:=cB y m0;have b0:L.cell? (aD G.heap.size 0)=some (.bool b):=j.cell 0;have b1:L.cell? (aD G.heap.size 1)=some (.int .i64 op):=j.cell 1;have b2:L.cell? (aD G.heap.size 2)=some (.int .i64 left):=j.cell 2;have b3:L.cell? (aD G.heap.size 3)=some (.bool a):=j.cell 3;have b4:L.cell? (aD G.heap.size 4)=some (.int .i64 right):=j.cell 4;have q7:w1.cell? (aD w.heap.size 7)=some (.slice f.ca (jK ts q).length f.cc):=S.cell 7;have N:=cB M q7;have I:Hid _:=E;have J:Hid _:=hf.below E;have aB:=hf.1;have B:=ui ⟨b,op,left,a,right⟩ L;unfold aI.val at B;simp only at B;have m:Hid (∀ k,k<(aJ ⟨b,op,left,a,right⟩).length->∃ n kd:Nat,(aJ ⟨b,op,left,a,right⟩).getD k 0=n/\n<(jK ts q).length/\((jK ts q).getD n (0,0)).2=(kd:Int)/\kd=(lK ts q.src.xs ((aJ ⟨b,op,left,a,right⟩).getD k 0)).toNat/\kd<=1000000):=λk Z=>by obtain⟨h0,h1⟩:=D _ (Zr Z (d:=0));have h2:=Br ok;have h3:=zy ok.cat ok.src h0 h1;refine⟨((aJ ⟨b,op,left,a,right⟩).getD k 0).toNat,(lK ts q.src.xs ((aJ ⟨b,op,left,a,right⟩).getD k 0)).toNat,by omega,by omega,?_,rfl,by omega⟩;have e:((jK ts q).getD ((aJ ⟨b,op,left,a,right⟩).getD k 0).toNat (0,0)).2=lK ts q.src.xs ((aJ ⟨b,op,left,a,right⟩).getD k 0):=rfl;rw[e];omega
 have O:Hid (∀ k,k<(aJ ⟨b,op,left,a,right⟩).length->lG ts q ((aJ ⟨b,op,left,a,right⟩).take (k+1))=max (lG ts q ((aJ ⟨b,op,left,a,right⟩).take k)) (lK ts q.src.xs ((aJ ⟨b,op,left,a,right⟩).getD k 0)).toNat):=λk Z=>CP ts q Z;have P:Hid (∀ k,lG ts q ((aJ ⟨b,op,left,a,right⟩).take k)<=1000000):=λk=>Wo ok D k;have Pn:Hid (lG ts q ((aJ ⟨b,op,left,a,right⟩).take (aJ ⟨b,op,left,a,right⟩).length)=lG ts q (aJ ⟨b,op,left,a,right⟩)):=by show _=_; rw[QT]
 have Wm:Hid (lG ts q ((aJ ⟨b,op,left,a,right⟩).take 0)=0):=rfl;have ag:Hid ((aJ ⟨b,op,left,a,right⟩).length<=2):=JS _;generalize aJ ⟨b,op,left,a,right⟩=CC at *;generalize f.cells ts q=FC at *;obtain⟨C,u⟩:∃ C:Nat->Nat,C=λk=>lG ts q (CC.take k):=⟨_,rfl⟩;have p:Hid (∀ k,k<CC.length->C (k+1)=max (C k) (lK ts q.src.xs (CC.getD k 0)).toNat):=by rw[u]; exact O.o
 have r:Hid (∀ k,C k<=1000000):=by rw[u]; exact P.o
 have K:Hid (C CC.length=lG ts q CC):=by rw[u]; exact Pn.o
 have v:Hid (C 0=0):=by rw[u]; exact Wm.o
 clear u O P Pn Wm c0 c1 c2 c3 c4 Q H y g E M S T j hf hx mF D ok;by_cases h1:1<cs.length
 ·have t:Hid (R=2):=by grind
  clear l i m p r K v J B;go_enter Tryz.func56,Tryz.ntmps56;go_wp2;go_ret;exact⟨Qe (by rw[t.o]; rfl),I.o⟩
 cases b with
 | true =>
  have t:Hid (R=2):=by grind
  clear l i m p r K v J B;go_enter Tryz.func56,Tryz.ntmps56;go_wp2;go_ret;exact⟨Qe (by rw[t.o]; rfl),I.o⟩
 | false =>
  have F:¬ (cs.length≠1∨false=true):=by grind
  by_cases o1:op=1
  ·have t:Hid (R=3):=by grind
   subst o1;clear l i m p r K v J B F;go_enter Tryz.func56,Tryz.ntmps56;go_wp2;go_ret;exact⟨Qe (by rw[t.o]; rfl),I.o⟩
  by_cases o2:op=2
  ·have t:Hid (R=10):=by grind
   subst o2;clear l i m p r K v J B F;go_enter Tryz.func56,Tryz.ntmps56;go_wp2;go_ret;exact⟨Qe (by rw[t.o]; rfl),I.o⟩
  have t:Hid (R=lG ts q CC):=i.o h1 h0 rfl o1 o2;have aG:(op==1)=false:=by simp[o1]
  have aH:(op==2)=false:=by simp[o2]
  rw[<- K.o]at t;clear l i F o1 o2 K;generalize lK ts q.src.xs=KN at *;generalize jK ts q=CS at *;go_enter Tryz.func56,Tryz.ntmps56;go_wp2_with fail;refine B.mono ?_;clear B av ax ay;rintro e w4 ⟨xb,rfl,U,z⟩;have ah:=cB z N;have ai:Hid _:=aF I.o z;have aj:Hid (jf w4 f.ca CS):=jf.below z J.o;have ak:Hid _:=U;have aK:=ag.o;clear z U J I m0 aa b0 b1 b2 b3 b4 q7 N d0 d1 d2 d3 d4;go_wp2;go_loop [6,30] (λsv iv=>∃ k:Nat,k<=CC.length/\iv=.int .i64 k/\(∃ s:Nat,sv=.int .u64 (s:Int)/\Hid (s=C k))) (λ_ iv=>CC.length-(intOf iv).toNat)
  case atStart=>grind
  case round=>
   obtain⟨k,Z,rfl,⟨s,rfl,V⟩⟩:=hrel;by_cases A:k<CC.length
   ·obtain⟨aP,xo,e,W⟩:=Qg ak.o A
    cases e;have au:=W k A;obtain⟨n,kd,hn,az,X,Y,aQ⟩:=m.o k A;have HT:Hid _:=p.o k A;have aL:s<=1000000:=by rw[V.o]; exact r.o k
    obtain⟨yb,yo,Wi,_,y1⟩:=(show jf w4 f.ca CS from aj.o).2 n az;rw[Wi]at ah;rw[hn,QL]at au;rw[X]at y1;rw[<- V.o,<- Y]at HT;clear W Wi X V Y hn;generalize KN (CC.getD k 0)=kk at *;have aM:max (s:Int) (kd:Int)=((max s kd:Nat):Int):=by omega
    have aN:(if (s:Int)<(kd:Int) then (kd:Int) else (s:Int))=((max s kd:Nat):Int):=by split <;> omega
    have aO:(if (kd:Int)<(s:Int) then (s:Int) else (kd:Int))=((max s kd:Nat):Int):=by split <;> omega
    go_wp2;go_round
    case rel=>grind
    case measure=>simp[intOf]; omega
   ·obtain rfl:k=CC.length:=by omega
    have Wj:Hid (s=R):=by show _=_; rw[V.o,t.o]
    clear V t;go_wp2;go_ret;exact⟨Qe (by rw[Wj.o]),ai.o⟩
theorem mU(h:W.ownsRow base e sz v n xs)(hb:v.ownBlock=some b):∃ a,W.heap[b]? = some (.cells a e (0,0)):=by
 rcases h.2 with⟨rfl,_⟩ | ⟨g,cap,a,rfl,_,h3,_⟩
 ·cases hb
 ·cases hb
  simp_all
theorem oM(ht:e≠t)(h:W.ownsRow base e sz v n xs){c:Array Value}(hg:GB W b t c):v.ownBlock≠some b:=λd=>by obtain⟨a,f⟩:=mU h d;unfold GB at hg;simp_all
theorem zK(ht:e≠t){base' sz':Nat}(h:W.ownsRow base e sz v n xs)(h':W.ownsRow base' t sz' v' n' xs')(hb:v.ownBlock=some b):v'.ownBlock≠some b:=λa=>by obtain⟨f,i⟩:=mU h hb;obtain⟨d,g⟩:=mU h' a;simp_all
theorem zL{w5:World}{bf:Nat}{tF:TypeId}(ht:e≠tF){cells:Array Value}(hg:GB W bf tF cells)(ho:W.ownsRow base e sz v n xs)(pF:w5.ownsRow base e sz v' n' xs')(hk:Kept (λb=>v.ownBlock≠some b) W w5)
  (hat:v'.ownBlock=v.ownBlock∨v'.ownBlock=some (W.heap.size+1)) (i:Nat) :
  GB w5 bf tF cells/\GB (w5.setCell (aD bf i) v') bf tF (cells.setIfInBounds i v')/\(w5.setCell (aD bf i) v').ownsRow base e sz v' n' xs'/\Kept (λb=>b≠bf/\v.ownBlock≠some b) W (w5.setCell (aD bf i) v'):=by
 have f:=oM ht ho hg;have a:=hg.keep hk f;have k:=hg.lt;have d:v'.ownBlock≠some bf:=λe=>by grind
 refine⟨a,a.set i v',?_,(hk.mono λ_ _ h=>h.2).trans (Zf _ _ _ (λh=>h.1 rfl))⟩;exact Zi pF (s:=λb=>b≠bf) (Zf _ _ _ (λh=>h rfl)) (λg j e=>d (by rw[j,e]))
theorem Wv(ts:List af)(src:List Int)(k m:Nat):(dI ts src k++((List.range (m+1)).map λm=>(k,(ts.getD (src.getD k 0).toNat tz).kd m))).flatMap kK=(dI ts src k++((List.range m).map λm=>(k,(ts.getD (src.getD k 0).toNat tz).kd m))).flatMap kK++kK (k,(ts.getD (src.getD k 0).toNat tz).kd m):=by rw[QM,Qi,<- List.append_assoc,QO];simp
def nZ(ts:List af)(src:List Int)(k:Nat):List Nat:=(List.range k).map λ(k:Nat)=>qI ts src (k:Int)
theorem Mr(ts:List af)(src:List Int)(k:Nat):nZ ts src (k+1)=nZ ts src k++[qI ts src (k:Int)]:=by grind [nZ,List.range_succ]
theorem pR(ts:List af)(src:List Int)(k:Nat):(nZ ts src k).length=k:=by grind [nZ]
theorem Bt{ts:List af}{src:List Int}(hc:gH ts=true)(ha:di src ts.length=true)(h:src.length<=64):∀ k,k<=src.length->(dI ts src k).length<=4*k
 | 0,_ => by simp[dI]
 | k+1,hk => by have ih:=Bt hc ha h k (by omega);rw[lW,QP,QQ,QR];obtain⟨h0,h1⟩:=zG ha (k:=k) (by omega);have ht:=zw hc (i:=(src.getD k 0).toNat) (by omega);unfold fB at ht;grind
