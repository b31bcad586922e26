import Derived.Test.YtgemohlbjehmbaaGreatDoorF33
set_option linter.all false
set_option maxRecDepth 100000
set_option maxHeartbeats 16000000
namespace Go.Proofs.Zz
open Go.RowKit Go.Shelf
variable {e:TypeId} {W W' W0 w x y:World} {ls wh:List aL} {v:Value} {ao:Option Addr} {B k m n:Nat} {N:Nat->Prop} {g:Nat->Value} {ts:List af} {q:ae} {f:aC}
theorem bZ.bI{w w':World}{ao:Option Addr}{cs:List aI}{s:Nat->Prop}(h:bZ w ao cs)(hk:Kept s w w')(hs:0<cs.length->∀ a,ao=some a->s a.block):bZ w' ao cs:=⟨h.1,λi f=>by
 obtain⟨b,d,e,j,k,l,m,n⟩:=h.2 i f;have g:s b:=hs (by omega) (aD b d) e;have key:∀ {o:Nat} {v:Value},w.cell? (aD b o)=some v->w'.cell? (aD b o)=some v:=λ{o v} hc=>by grind [World.cell?,Kept.block]
 grind⟩
structure WH(e:TypeId)(w:World)(wh:List aL)(k:Nat)(v:Value)(ls:List aL)(x:World):Prop where
 own:x.ownsRow w.heap.size e 1 v ls.length (ls.map aL.val)
 len:ls.length=wh.length
 cs:∀ i,i<ls.length->(ls.getD i lz).cs=(wh.getD i lz).cs/\bZ x (ls.getD i lz).ad (ls.getD i lz).cs
 new:∀ i,i<k->i<ls.length->∀ a,(ls.getD i lz).ad=some a->w.heap.size<=a.block
 old:∀ i,k<=i->i<ls.length->ls.getD i lz=wh.getD i lz
 off:∀ i,i<ls.length->0<(ls.getD i lz).cs.length->∀ a,(ls.getD i lz).ad=some a->v.ownBlock≠some a.block
 below:Bw w x
theorem WH.start(h:fT w ao wh)(ho:x.ownsRow w.heap.size e 1 v wh.length (wh.map aL.val))(hb:Bw w x):WH e w wh 0 v wh x:=
 ⟨ho,rfl,λi d=>⟨rfl,(h.2.2 i d).below hb⟩,λi d=>absurd d (Nat.not_lt_zero _),λi _ _=>rfl,λi d k a l m=>by
  obtain⟨b,g,f,j,_⟩:=(h.2.2 i d).2 0 k;rw[l]at f;injection f with f;have n:b<w.heap.size:=Za j;have o:=(Zj ho m).1;grind,hb⟩
theorem WH.step(h:WH e w wh k v ls x)(hb:Bw x y):WH e w wh k v ls y:=
 ⟨ZM h.own hb,h.len,λi a=>⟨(h.cs i a).1,(h.cs i a).2.below hb⟩,h.new,h.old,h.off,h.below.trans (hb.mono h.below.size)⟩
theorem vZ(ls:List aL)(k i:Nat)(u:aL)(hk:k<ls.length):(ls.set k u).getD i lz=if i=k then u else ls.getD i lz:=by grind
theorem WH.next(h:WH e w wh k v ls x)(hk:k<ls.length)(hb:Bw x y){ad:Option Addr}{cap:Nat}(hc:bZ y ad (wh.getD k lz).cs)(hn:∀ a,ad=some a->x.heap.size<=a.block) :
  ∃ g o,v=.slice (some (aD g 0)) ls.length o/\WH e w wh (k+1) v (ls.set k ⟨ad,cap,(wh.getD k lz).cs⟩) (y.setCell (aD g k) (.slice ad (wh.getD k lz).cs.length cap)):=by
 have hy:=h.step hb;rcases h.own.2 with⟨_,h1⟩ | ⟨g,o,cur,hv,hbg,hh,hcp,hm,hs,ht⟩
 ·omega
 refine⟨g,o,hv,?_⟩;have j:v.ownBlock=some g:=by rw[hv]; rfl
 have r:=(Zj h.own j).2;have l:Kept (λb=>b≠g) y (y.setCell (aD g k) (.slice ad (wh.getD k lz).cs.length cap)):=Zf _ _ _ (λh=>h rfl);have d:(ls.set k ⟨ad,cap,(wh.getD k lz).cs⟩).length=ls.length:=Xw ..;refine⟨?_,d.trans h.len,λi f=>?_,λi f n=>?_,λi f n=>?_,λi f=>?_,h.below.trans ((hb.mono h.below.size).trans (l.below (Q6 h.below.size hb.size) λb hb=>by omega))⟩
 ·have p:=iY j [.slice ad (wh.getD k lz).cs.length cap] k hy.own (by simp; omega);have m:(ls.map aL.val).take k++[.slice ad (wh.getD k lz).cs.length cap]++(ls.map aL.val).drop (k+[Value.slice ad (wh.getD k lz).cs.length cap].length)=(ls.set k ⟨ad,cap,(wh.getD k lz).cs⟩).map aL.val:=by rw[List.map_set,List.set_eq_take_append_cons_drop,Qo (by simp_all)];simp[aL.val]
  rw[m]at p;rw[d];exact p
 ·rw[d]at f;rw[vZ ls k i _ hk];split
  ·rename_i m
   subst m;refine⟨rfl,bZ.bI hc l λ_ a q=>?_⟩;grind
  ·refine⟨(h.cs i f).1,bZ.bI (hy.cs i f).2 l λs a q m=>h.off i f s a q (by rw[j,m])⟩
 ·rw[d]at n;rw[vZ ls k i _ hk];split
  ·grind
  ·exact h.new i (by omega) n
 ·rw[d]at n;rw[vZ ls k i _ hk,Qu (by omega)]
  grind [WH.old]
 ·rw[d]at f;rw[vZ ls k i _ hk];split
  ·grind
  grind [WH.off]
def World.M5(W:World)(B:Nat)(v0 v1 v2 v3 v4 v5 v6:Value):World:=(((((((W.setCell (aD B 0) v0).setCell (aD B 1) v1).setCell (aD B 2) v2).setCell (aD B 3) v3).setCell (aD B 4) v4).setCell (aD B 5) v5).setCell (aD B 6) v6)
theorem World.afE{t:TypeId}{a0 a1 a2 a3 a4 a5 a6:Value}(h:GB W B t #[a0,a1,a2,a3,a4,a5,a6])(v0 v1 v2 v3 v4 v5 v6:Value):GB (World.M5 W B v0 v1 v2 v3 v4 v5 v6) B t #[v0,v1,v2,v3,v4,v5,v6]:=by unfold World.M5;have a:GB (W.setCell (aD B 0) v0) B t #[v0,a1,a2,a3,a4,a5,a6]:=h.set 0 v0;have b:GB ((W.setCell (aD B 0) v0).setCell (aD B 1) v1) B t #[v0,v1,a2,a3,a4,a5,a6]:=a.set 1 v1;have d:GB (((W.setCell (aD B 0) v0).setCell (aD B 1) v1).setCell (aD B 2) v2) B t #[v0,v1,v2,a3,a4,a5,a6]:=b.set 2 v2;have e:GB ((((W.setCell (aD B 0) v0).setCell (aD B 1) v1).setCell (aD B 2) v2).setCell (aD B 3) v3) B t #[v0,v1,v2,v3,a4,a5,a6]:=d.set 3 v3;have f:GB (((((W.setCell (aD B 0) v0).setCell (aD B 1) v1).setCell (aD B 2) v2).setCell (aD B 3) v3).setCell (aD B 4) v4) B t #[v0,v1,v2,v3,v4,a5,a6]:=e.set 4 v4;have g:GB ((((((W.setCell (aD B 0) v0).setCell (aD B 1) v1).setCell (aD B 2) v2).setCell (aD B 3) v3).setCell (aD B 4) v4).setCell (aD B 5) v5) B t #[v0,v1,v2,v3,v4,v5,a6]:=f.set 5 v5;have i:GB (((((((W.setCell (aD B 0) v0).setCell (aD B 1) v1).setCell (aD B 2) v2).setCell (aD B 3) v3).setCell (aD B 4) v4).setCell (aD B 5) v5).setCell (aD B 6) v6) B t #[v0,v1,v2,v3,v4,v5,v6]:=g.set 6 v6;exact i
theorem World.WW(W:World)(B:Nat)(v0 v1 v2 v3 v4 v5 v6:Value):Kept (λx=>x≠B) W (World.M5 W B v0 v1 v2 v3 v4 v5 v6):=by unfold World.M5;exact(((((((Zf _ (aD B 0) _ (λh=>h rfl)).trans (Zf _ (aD B 1) _ (λh=>h rfl))).trans (Zf _ (aD B 2) _ (λh=>h rfl))).trans (Zf _ (aD B 3) _ (λh=>h rfl))).trans (Zf _ (aD B 4) _ (λh=>h rfl))).trans (Zf _ (aD B 5) _ (λh=>h rfl))).trans (Zf _ (aD B 6) _ (λh=>h rfl)))
structure ae.New(q:ae)(n:Nat):Prop where
 src:∀ a,q.src.ad=some a->n<=a.block
 wh:∀ a,q.dD=some a->n<=a.block
 cl:∀ i,i<q.wh.length->∀ a,(q.wh.getD i lz).ad=some a->n<=a.block
 keys:∀ a,q.keys.ad=some a->n<=a.block
 sums:∀ a,q.sums.ad=some a->n<=a.block
 bA:∀ a,q.bA.ad=some a->n<=a.block
 ord:∀ a,q.ord.ad=some a->n<=a.block
structure bN(q p:ae):Prop where
 src:p.src.xs=q.src.xs
 len:p.wh.length=q.wh.length
 cs:∀ i,i<p.wh.length->(p.wh.getD i lz).cs=(q.wh.getD i lz).cs
 group:p.group=q.group
 keys:p.keys.xs=q.keys.xs
 sums:p.sums.xs=q.sums.xs
 bA:p.bA.xs=q.bA.xs
 ord:p.ord.xs=q.ord.xs
structure acu(q:ae):Prop where
 src:(q.src.ad=none->q.src.cap=0)/\q.src.xs.length<=1000
 wh:(q.dD=none->q.aS=0)/\q.wh.length<=100
 cl:∀ i,i<q.wh.length->((q.wh.getD i lz).ad=none->(q.wh.getD i lz).cap=0)/\(q.wh.getD i lz).cs.length<=100
 keys:(q.keys.ad=none->q.keys.cap=0)/\q.keys.xs.length<=1000
 sums:(q.sums.ad=none->q.sums.cap=0)/\q.sums.xs.length<=1000
 bA:(q.bA.ad=none->q.bA.cap=0)/\q.bA.xs.length<=1000
 ord:(q.ord.ad=none->q.ord.cap=0)/\q.ord.xs.length<=1000
structure acv(q:ae):Prop where
 src:q.src.ad=none->q.src.cap=0
 keys:q.keys.ad=none->q.keys.cap=0
 sums:q.sums.ad=none->q.sums.cap=0
 bA:q.bA.ad=none->q.bA.cap=0
 ord:q.ord.ad=none->q.ord.cap=0
theorem WX{v0 v1 v2 v3 v4 v5 v6:Value}(h:GB W B 26 #[v0,v1,v2,v3,v4,v5,v6]):(loadVar 26 (aD B 0)).run Tryz.prog W=.ok (.agg #[v0,v1,v2,v3,v4,v5,v6]) W:=by obtain⟨a,b,d,e,f,g,i⟩:=h.k7;simp[go_sem,a,b,d,e,f,g,i]
theorem R4(q:ae)(w:World)(hq:q.At w)(ht:acu q) :
  Calls Tryz.prog 30 #[.agg q.cells] w λe w'=>∃ p:ae,e=.returned (.agg p.cells)/\p.At w'/\bN q p/\p.New w.heap.size/\acv p/\p.keys.xs.length<=p.keys.cap/\Bw w w':=by
 have xI:q.cells=#[q.src.val,.slice q.dD q.wh.length q.aS,.bool q.group,q.keys.val,q.sums.val,q.bA.val,q.ord.val]:=rfl;rw[xI];clear xI;obtain⟨w1,bP,aQ,aA⟩:=bn w #[q.src.val,.slice q.dD q.wh.length q.aS,.bool q.group,q.keys.val,q.sums.val,q.bA.val,q.ord.val] 26;obtain⟨w2,bQ,aR,bu⟩:=bn w1 #[.slice none 0 0,.slice none 0 0,.bool false,.slice none 0 0,.slice none 0 0,.slice none 0 0,.slice none 0 0] 26;have mI:=aF aQ aR;have aG:=aA.keep (Q7 (s:=λb=>b<w1.heap.size) aR (λ_ h _=>h)) aA.lt;have HQ:=Zh hq;have HT:=Zh ht;have aV:=Zh mI;have aH:=Zh bu;have uk:=Zh aG;have I7:=hq.wh.below mI;have R5:=BA q.dD q.aS q.wh w2 ⟨I7.1,I7.2.1⟩ ht.wh.1 (by have:=ht.wh.2; omega);have Bf:=Zh I7;have c1:=aG.at 1;have Rw:Hid (∀ (x:World) (i:Nat) (l:aL),i<q.wh.length->l=q.wh.getD i lz->bZ x l.ad l.cs->Calls Tryz.prog 46 #[.slice l.ad l.cs.length l.cap] x λe w'=>∃ C cap,e=.returned (.slice C l.cs.length cap)/\bZ w' C l.cs/\(∀ a,C=some a->x.heap.size<=a.block)/\Bw x w'):=λx i l F hl hc=>by have aI:=ht.cl i F;rw[<- hl]at aI;refine(EE l.ad l.cap l.cs x hc aI.1 (by omega)).mono ?_;rintro e w' ⟨v,rfl,ho,u⟩;obtain⟨C,cap,rfl,Wi,d⟩:=zR ho aI.2;grind
 have yD:=Zh (Nat.ne_of_lt aA.lt);have bD:=Zh aQ.size;have N:Hid (∀ (x:World) (iv:ai),Bw w x->iv.At w->((iv.ad=none->iv.cap=0)/\iv.xs.length<=1000)->Calls Tryz.prog 47 #[iv.val] x λe w'=>∃ jv:ai,e=.returned jv.val/\jv.xs=iv.xs/\jv.At w'/\(∀ a,jv.ad=some a->x.heap.size<=a.block)/\(jv.ad=none->jv.cap=0)/\jv.xs.length<=jv.cap/\Bw x w'):=λx iv n F ht=>by refine(qZ iv x (Ql n F) ht.1 (by omega)).mono ?_;rintro e w' ⟨v,rfl,ho,u⟩;obtain⟨jv,rfl,h1,h2,h3,h4,h5⟩:=pG ho (by omega);grind
 clear hq ht aQ aA aR bu mI aG I7;go_enter Tryz.func30,Tryz.ntmps30;go_wp2_with fail;refine R5.mono ?_;rintro e w3 ⟨v,rfl,aB,P⟩;have aJ:=Zh (WH.start Bf.o aB P);obtain⟨J,vn,L,rfl⟩:=Zk aB;obtain rfl:vn=q.wh.length:=by
  rcases aB.2 with⟨e,h0⟩ | ⟨g,cap,bz,e,_⟩
  ·injection e with e1 e2 e3;omega
  ·injection e with e1 e2 e3
 clear R5 c1 bP bQ aB P;have bS:=HT.o.wh.2;go_wp2;go_loopw [11] (λiv wr=>∃ k:Nat,k<=q.wh.length/\iv=.int .i64 (k:Int)/\Hid (∃ ls,WH 84 w2 q.wh k (.slice J q.wh.length L) ls wr)) (λiv _=>q.wh.length-(intOf iv).toNat)
 case atStart=>exact⟨0,QK _,rfl,_,aJ.o⟩
 case round=>
  obtain⟨k,hk,rfl,HJ⟩:=hrel;obtain⟨ls,M⟩:=HJ.o;by_cases bC:k<q.wh.length
  ·have aK:k<ls.length:=by rw[M.len]; exact bC
   obtain⟨g,cp,hv,A⟩:∃ g cp,(Value.slice J q.wh.length L)=.slice (some (aD g 0)) ls.length cp/\wr.cell? (aD g k)=some (ls.getD k lz).val:=by
    rcases iR M.own with⟨_,h1⟩ | ⟨g,cap,e,_,_,hc⟩
    ·omega
    grind
   injection hv with hv1 hv2 hv3;subst hv1;have aW:=M.old k (Qn _) aK;obtain⟨l,hl⟩:=eY (q.wh.getD k lz);have W:=(M.cs k aK).2;rw[aW,<- hl]at A W;have X:=Zh M;obtain⟨bz,bB⟩:=mU M.own (b:=g) rfl;have sI:Hid (GB wr g 84 bz):=bB;obtain⟨y1,aT⟩:∃ z,wr.alloc (.cells #[.slice none 0 0] 84)=z:=⟨_,rfl⟩;have Y:GB y1 wr.heap.size 84 #[.slice none 0 0]:=by rw[<- aT]; exact qH _ _
   have aN:Bw wr y1:=by rw[<- aT]; exact fq _ _
   obtain⟨la,lc,lx⟩:=l;simp only[aL.val]at A W;have bE:=Y.at 0;have bF:=Y.frozen 0;obtain⟨y2,aU⟩:∃ z,y1.setCell (aD wr.heap.size 0) (.slice la lx.length lc)=z:=⟨_,rfl⟩;have bG:y2.cell? (aD wr.heap.size 0)=some (.slice la lx.length lc):=by rw[<- aU]; exact(Y.set 0 _).cell 0
   have aO:Bw wr y2:=by rw[<- aU];exact aN.trans ((Zf (s:=λb=>b≠wr.heap.size) _ _ _ (λh=>h rfl)).below aN.size (λb u=>Nat.ne_of_lt u))
   have UE:=Rw.o y2 k ⟨la,lc,lx⟩ bC hl (W.below aO);change Calls Tryz.prog 46 #[.slice la lx.length lc] y2 (λe w'=>∃ C cap,e=.returned (.slice C lx.length cap)/\bZ w' C lx/\(∀ a,C=some a->y2.heap.size<=a.block)/\Bw y2 w') at UE;have CR:=Zh aO;have HL:=Zh hl;clear M HJ bB W aN aO Y aW hl hv2 hv3 aJ;go_wp2_with fail;refine UE.mono ?_;rintro e y3 ⟨C,cap,rfl,Wi,d,P⟩;have af:=CR.o.trans (P.mono CR.o.size);have G:lx=(q.wh.getD k lz).cs:=by rw[<- HL.o]
   have pQ:Hid (WH 84 w2 q.wh (k+1) (.slice (some (aD g 0)) q.wh.length L) (ls.set k ⟨C,cap,(q.wh.getD k lz).cs⟩) (y3.setCell (aD g k) (.slice C lx.length cap))):=by obtain⟨g',bY,e,h⟩:=X.o.next aK af (cap:=cap) (by rw[<- G]; exact Wi) (λa t=>Q6 CR.o.size (d a t));injection e with e1;injection e1 with e1;injection e1 with e1;rw[<- G,<- e1]at h;rw[<- G];exact h
   have bT:=cB af A;have bU:=(sI.o.keep (Q7 (s:=λb=>b<wr.heap.size) af (λ_ h _=>h)) sI.o.lt).frozen k;clear UE aT aU A bE bF bG Wi d P af G;go_wp2;go_roundw
   case rel=>exact⟨k+1,by omega,by go_num,_,pQ.o⟩
   case measure=>simp[intOf]; omega
  ·have aX:k=q.wh.length:=by omega
   have D:=uk.o.keep (Q7 (s:=λb=>b<w2.heap.size) M.below (λ_ h _=>h)) uk.o.lt;have aY:=aH.o.keep (Q7 (s:=λb=>b<w2.heap.size) M.below (λ_ h _=>h)) aH.o.lt;have d0:=D.at 0;have d2:=D.at 2;have d3:=D.at 3;have d4:=D.at 4;have d5:=D.at 5;have d6:=D.at 6;have H:=yD.o;have X:=Zh M;have aZ:=Zh aX;have sH:=Zh aY;have jo:=Zh (aF aV.o M.below);clear M HJ D aY aX aJ;go_wp2_with fail;refine QC (S:=λx=>Kept (λb=>b≠w1.heap.size) wr x) (by kernel_rfl) (Q7 ((Qm _ _).drew) (λ_ h _=>h)) (λy=>?_);refine wt 0 (.pointer (some (aD w.heap.size 0))) y ?_;refine wT 1 (q.src.val) y (λx n=>?_) ?_
   ·have e0:=XF n d0 H;go_simp
   refine wt 3 (.slice J q.wh.length L) y ?_;refine wt 4 (.pointer (some (aD w.heap.size 2))) y ?_;refine wT 5 (.bool q.group) y (λx n=>?_) ?_
   ·have e0:=XF n d2 H;go_simp
   refine wt 6 (.pointer (some (aD w.heap.size 3))) y ?_;refine wT 7 (q.keys.val) y (λx n=>?_) ?_
   ·have e0:=XF n d3 H;go_simp
   refine wt 9 (.pointer (some (aD w.heap.size 4))) y ?_;refine wT 10 (q.sums.val) y (λx n=>?_) ?_
   ·have e0:=XF n d4 H;go_simp
   refine wt 12 (.pointer (some (aD w.heap.size 5))) y ?_;refine wT 13 (q.bA.val) y (λx n=>?_) ?_
   ·have e0:=XF n d5 H;go_simp
   refine wt 15 (.pointer (some (aD w.heap.size 6))) y ?_;refine wT 16 (q.ord.val) y (λx n=>?_) ?_
   ·have e0:=XF n d6 H;go_simp
   have bf:Bw wr wr.drew:=(Qm _ _).drew;refine wR 2 λK B=>?_;go_simp;refine Z5 (N.o _ q.src (aF jo.o bf) HQ.o.src HT.o.src) ?_;rintro e s1 ⟨iv,rfl,n,r,d,j,m,u⟩;obtain⟨Q,ac,ax⟩:=iv;simp only[ai.val];have Kq:=aF bf u;clear u;have ag:=Zh (XI n (XI r (XI d (XI j m))));clear n r d j m;refine B.o _ _ (Q7 Kq (λ_ h _=>h)) (λy=>?_);clear B K;refine wR 8 λK B=>?_;go_simp;refine Z5 (N.o _ q.keys (aF jo.o Kq) HQ.o.keys HT.o.keys) ?_;rintro e s2 ⟨iv,rfl,n,r,d,j,m,u⟩;obtain⟨R,bc,bx⟩:=iv;simp only[ai.val];have R6:=aF Kq u;have bH:=Zh u;clear u;have O:=Zh (XI n (XI r (XI d (XI j m))));clear n r d j m;refine B.o _ _ (Q7 R6 (λ_ h _=>h)) (λy=>?_);clear B K;refine wR 11 λK B=>?_;go_simp;refine Z5 (N.o _ q.sums (aF jo.o R6) HQ.o.sums HT.o.sums) ?_;rintro e s3 ⟨iv,rfl,n,r,d,j,m,u⟩;obtain⟨T,cc,cx⟩:=iv;simp only[ai.val];have ah:=aF R6 u;have bg:=Zh u;clear u;have aj:=Zh (XI n (XI r (XI d (XI j m))));clear n r d j m;refine B.o _ _ (Q7 ah (λ_ h _=>h)) (λy=>?_);clear B K;refine wR 14 λK B=>?_;go_simp;refine Z5 (N.o _ q.bA (aF jo.o ah) HQ.o.bA HT.o.bA) ?_;rintro e s4 ⟨iv,rfl,n,r,d,j,m,u⟩;obtain⟨U,dc,dx⟩:=iv;simp only[ai.val];have ak:=aF ah u;have aP:=Zh u;clear u;have au:=Zh (XI n (XI r (XI d (XI j m))));clear n r d j m;refine B.o _ _ (Q7 ak (λ_ h _=>h)) (λy=>?_);clear B K;refine wR 17 λK B=>?_
   go_simp;refine Z5 (N.o _ q.ord (aF jo.o ak) HQ.o.ord HT.o.ord) ?_;rintro e s5 ⟨iv,rfl,n,r,d,j,m,u⟩;obtain⟨V,fc,fx⟩:=iv;simp only[ai.val];have WY:=aF ak u;have av:=Zh u;clear u;have ay:=Zh (XI n (XI r (XI d (XI j m))));clear n r d j m;refine B.o _ _ (Q7 WY (λ_ h _=>h)) (λy=>?_);clear B K;refine wt 18 (.agg #[.slice Q ax.length ac,.slice J q.wh.length L,.bool q.group,.slice R bx.length bc,.slice T cx.length cc,.slice U dx.length dc,.slice V fx.length fc]) y ?_;have f:=sH.o.keep (Q7 (s:=λb=>b<wr.heap.size) WY (λ_ h _=>h)) sH.o.lt;have vV:=Zh (WX (World.afE f (.slice Q ax.length ac) (.slice J q.wh.length L) (.bool q.group) (.slice R bx.length bc) (.slice T cx.length cc) (.slice U dx.length dc) (.slice V fx.length fc)));have I:=World.WW s5 w1.heap.size (.slice Q ax.length ac) (.slice J q.wh.length L) (.bool q.group) (.slice R bx.length bc) (.slice T cx.length cc) (.slice U dx.length dc) (.slice V fx.length fc);have r0:=f.at 0;have z0:=f.frozen 0;have r1:=f.at 1;have z1:=f.frozen 1;have r2:=f.at 2;have z2:=f.frozen 2;have r3:=f.at 3;have z3:=f.frozen 3;have r4:=f.at 4;have z4:=f.frozen 4;have r5:=f.at 5;have z5:=f.frozen 5;have r6:=f.at 6;have z6:=f.frozen 6;have iL:Hid (∃ p:ae,Ending.returned (.agg #[.slice Q ax.length ac,.slice J q.wh.length L,.bool q.group,.slice R bx.length bc,.slice T cx.length cc,.slice U dx.length dc,.slice V fx.length fc])=.returned (.agg p.cells)/\p.At (World.M5 s5 w1.heap.size (.slice Q ax.length ac) (.slice J q.wh.length L) (.bool q.group) (.slice R bx.length bc) (.slice T cx.length cc) (.slice U dx.length dc) (.slice V fx.length fc))/\bN q p/\p.New w.heap.size/\acv p/\p.keys.xs.length<=p.keys.cap/\Bw w (World.M5 s5 w1.heap.size (.slice Q ax.length ac) (.slice J q.wh.length L) (.bool q.group) (.slice R bx.length bc) (.slice T cx.length cc) (.slice U dx.length dc) (.slice V fx.length fc))):=by
    have bV:=aH.o.lt;have E:=X.o.step WY;have az:=E.len;have bW:=X.o.below.size;have bX:=aV.o.size;generalize hZ:World.M5 s5 w1.heap.size (.slice Q ax.length ac) (.slice J q.wh.length L) (.bool q.group) (.slice R bx.length bc) (.slice T cx.length cc) (.slice U dx.length dc) (.slice V fx.length fc)=Z at *;have aC:=Zi E.own I (λg e e2=>by have h1:=(Zj E.own e).1; omega);have G:∀ i,i<ls.length->bZ Z (ls.getD i lz).ad (ls.getD i lz).cs:=λi F=>bZ.bI (E.cs i F).2 I λ_ a t e2=>by have h1:=E.new i (by rw[aZ.o,<- az]; exact F) F a t;omega
    obtain⟨cu,cz,e2,bR⟩:=EA aC (λx n=>by
     obtain⟨i,F,rfl⟩:=List.mem_iff_getElem.1 n;have:=G i F;rw[Xo,Xr F]at this;exact this) (by omega)
    injection e2 with e21 e22 e23;subst e21;have key:∀ {C:Option Addr} {xs:List Int},aM s5 C xs->(∀ a,C=some a->wr.heap.size<=a.block)->aM Z C xs:=λ{C xs} h1 h2=>ZH h1 I λ_ a t e3=>by have:=h2 a t;omega
    have na:∀ a,Q=some a->wr.heap.size<=a.block:=λa t=>Q6 (Qn _) (ag.o.2.2.1 a t);have bJ:aM Z Q ax:=key (Ql av.o (Ql aP.o (Ql bg.o (Ql bH.o (ag.o.2.1))))) na;have nb:∀ a,R=some a->wr.heap.size<=a.block:=λa t=>Q6 Kq.size (O.o.2.2.1 a t);have bK:aM Z R bx:=key (Ql av.o (Ql aP.o (Ql bg.o (O.o.2.1)))) nb;have nc:∀ a,T=some a->wr.heap.size<=a.block:=λa t=>Q6 R6.size (aj.o.2.2.1 a t);have bL:aM Z T cx:=key (Ql av.o (Ql aP.o (aj.o.2.1))) nc;have nd:∀ a,U=some a->wr.heap.size<=a.block:=λa t=>Q6 ah.size (au.o.2.2.1 a t);have bM:aM Z U dx:=key (Ql av.o (au.o.2.1)) nd;have nf:∀ a,V=some a->wr.heap.size<=a.block:=λa t=>Q6 ak.size (ay.o.2.2.1 a t);have bO:aM Z V fx:=key (ay.o.2.1) nf;refine⟨⟨⟨Q,ac,ax⟩,J,L,ls,q.group,⟨R,bc,bx⟩,⟨T,cc,cx⟩,⟨U,dc,dx⟩,⟨V,fc,fx⟩⟩,?_,⟨bJ,bR,bK,bL,bM,bO⟩,⟨ag.o.1,az,λi F=>(E.cs i F).1,rfl,O.o.1,aj.o.1,au.o.1,ay.o.1⟩,⟨λa t=>?_,λa t=>?_,λi F a t=>?_,λa t=>?_,λa t=>?_,λa t=>?_,λa t=>?_⟩,⟨ag.o.2.2.2.1,O.o.2.2.2.1,aj.o.2.2.2.1,au.o.2.2.2.1,ay.o.2.2.2.1⟩,O.o.2.2.2.2,jo.o.trans ((WY.mono jo.o.size).trans (I.below (Q6 jo.o.size WY.size) λb u=>by have:=bD.o; omega))⟩
    ·unfold ae.cells;simp only[ai.val];rw[az]
    ·have:=na a t;omega
    ·have h1:=(Zj aC (g:=a.block) (by rw[show J=some a from t]; rfl)).1;omega
    ·have h1:=E.new i (by rw[aZ.o,<- az]; exact F) F a t;omega
    ·have:=nb a t;omega
    ·have:=nc a t;omega
    ·have:=nd a t;omega
    ·have:=nf a t;omega
   have bq:=Zh ((Q7 (s:=λb=>b≠w1.heap.size) WY (λ_ h _=>h)).trans I);unfold World.M5 at iL vV bq;clear I f;refine wR 19 λK B=>?_;go_simp;refine B.o _ _ (bq.o) (λy=>?_);clear B K;refine wD ?_;try simp only[pV]
   go_wp2;exact Xh (kX (p:=2) rfl rfl vV.o) rfl iL.o
structure jT(N:Nat->Prop)(W W0:World):Prop where
 size:W0.heap.size=W.heap.size
 block:∀ b,¬ N b->W0.heap[b]? = W.heap[b]?
 dead:∀ b o v,W0.cell? (aD b o)=some v->¬ N b
theorem WZ(N:Nat->Prop)(W:World):∃ g,jT N W g:=by
 classical
 have a:({ W with heap:=W.heap.mapIdx λi o=>if N i then .deferred none else o }:World).heap.size=W.heap.size:=by simp
 refine⟨{ W with heap:=W.heap.mapIdx λi o=>if N i then .deferred none else o },a,λb h=>?_,λb o v d h=>?_⟩
 ·simp_all
 ·have f:=Za d;rw[a]at f;have e:({ W with heap:=W.heap.mapIdx λi o=>if N i then .deferred none else o }:World).heap[b]? = some (.deferred none):=by simp_all
  simp[World.cell?,e]at d
theorem jT.cell{N:Nat->Prop}{W W0:World}(K:jT N W W0){b o:Nat}{v:Value}(h:¬ N b)(hc:W.cell? (aD b o)=some v):W0.cell? (aD b o)=some v:=by grind [World.cell?_of_block,jT.block]
theorem jT.under(K:jT N W W0):Under W0 W:=
 ⟨by rw[K.size]; omega,λb o v a=>by
  grind [jT.dead,World.cell?_of_block,jT.block]⟩
theorem jT.live(K:jT N W W0){b:Nat}(h:Live W0 b):¬ N b:=by grind [Live,jT.dead]
theorem vk(K:jT N W W0)(h:bT W ao n g)(hn:∀ a,ao=some a->¬ N a.block):bT W0 ao n g:=λi f=>by obtain⟨b,d,e,j⟩:=h i f;grind [jT.cell]
theorem lg(K:jT N W W0)(hN:∀ b,N b->b<n∨W'.heap.size<=b)(hb:Bw W' W)(h:bT W' ao k g)(hn:∀ a,ao=some a->n<=a.block):bT W0 ao k g:=λi j=>by obtain⟨b,d,e,f⟩:=h i j;have l:n<=b:=hn _ e;have m:b<W'.heap.size:=Za f;exact⟨b,d,e,K.cell (λo=>by grind) (cB hb f)⟩
theorem Kr(K:jT N W W0)(hN:∀ b,N b->b<n∨W'.heap.size<=b)(hb:Bw W' W)(h:bF W' ao ts)(hn:∀ a,ao=some a->n<=a.block):bF W0 ao ts:=⟨h.1,λi p=>by
 obtain⟨b,f,e,g,j,k,l,m,o⟩:=h.2 i p;have q:n<=b:=hn _ e;have r:b<W'.heap.size:=Za g;have d:¬ N b:=λs=>by grind
 exact⟨b,f,e,K.cell d (cB hb g),K.cell d (cB hb j),K.cell d (cB hb k),K.cell d (cB hb l),K.cell d (cB hb m),K.cell d (cB hb o)⟩⟩
theorem CU(K:jT N W W0)(hN:∀ b,N b->b<n∨W'.heap.size<=b)(hb:Bw W' W)(h:q.At W')(hn:q.New n):q.At W0:=by
 refine⟨⟨h.src.1,lg K hN hb h.src.2 hn.src⟩,⟨h.wh.1,lg K hN hb h.wh.2.1 hn.wh,λi f=>⟨(h.wh.2.2 i f).1,λj p=>?_⟩⟩,⟨h.keys.1,lg K hN hb h.keys.2 hn.keys⟩,⟨h.sums.1,lg K hN hb h.sums.2 hn.sums⟩,⟨h.bA.1,lg K hN hb h.bA.2 hn.bA⟩,⟨h.ord.1,lg K hN hb h.ord.2 hn.ord⟩⟩;obtain⟨b,d,e,g,k,l,m,o⟩:=(h.wh.2.2 i f).2 j p;have r:n<=b:=hn.cl i f _ e;have s:b<W'.heap.size:=Za g;have a:¬ N b:=λt=>by grind
 exact⟨b,d,e,K.cell a (cB hb g),K.cell a (cB hb k),K.cell a (cB hb l),K.cell a (cB hb m),K.cell a (cB hb o)⟩
theorem M6(K:jT N W W0)(hN:∀ b,N b->b<m)(h:f.At ts q W)(hf:f.New m)(hq:q.At W0):f.At ts q W0:=by
 have key:∀ {ao:Option Addr},(∀ a,ao=some a->m<=a.block)->∀ a,ao=some a->¬ N a.block:=λh a e n=>by grind
 refine⟨hq,⟨h.aX.1,λi l=>?_⟩,⟨h.rows.1,vk K h.rows.2 (key hf.ra)⟩,⟨h.conc.1,vk K h.conc.2 (key hf.na)⟩,⟨h.parts.1,vk K h.parts.2 (key hf.pa)⟩,h.nl,h.pl⟩;obtain⟨b,d,e,j,k⟩:=h.aX.2 i l;have g:¬ N b:=key hf.ca _ e;exact⟨b,d,e,K.cell g j,K.cell g k⟩
theorem Env.kill(K:jT N W W0)(E:Env f ts q W)(h0:¬ N 0)(hNf:∀ b,N b->b<m)(hf:f.New m)(hNq:∀ b,N b->b<n∨W'.heap.size<=b)(hb:Bw W' W)(hq:q.At W')(hn:q.New n):Env f ts q W0:=
 ⟨E.ok,M6 K hNf E.facts hf (CU K hNq hb hq hn),λj u a=>K.cell h0 (E.shapes j u a),E.one,E.five,E.eight,E.ord,E.few,E.keys,E.want,E.an8,E.iX,E.an9⟩
theorem Fz.kill(K:jT N W W0)(hb:Bw W w)(hN:∀ b,N b->b<w.heap.size):Fz (λb=>¬ N b) W0 w:=
 ⟨⟨by rw[K.size]; exact hb.size,λb o v a=>cB hb (K.under.cell b o v a)⟩,λb h=>K.live h,λb h d=>by grind⟩
theorem bN.oG{q p:ae}(h:bN q p):p.oG=q.oG:=by
 unfold ae.oG;apply List.ext_getElem
 ·rw[QQ,QQ,h.len]
 ·intro i a b;rw[QQ]at a b;have:=h.cs i a
  simp_all
theorem bN.check{q p:ae}(h:bN q p)(ts:List af):p.check ts=q.check ts:=by unfold ae.check;rw[h.src,h.oG,h.group,h.keys,h.sums,h.bA,h.ord]
theorem EK{xs:List Int}(h:di xs (az ts q.src.xs)=true):iM ts q xs:=λc a=>by unfold di at h;simp_all
theorem ajL(hc:q.check ts=0)(hf:f.At ts q W)(hs:dn W 0)(hk:q.keys.xs.length<=q.keys.cap)(hn:q.keys.ad=none->q.keys.cap=0):Env f ts q W:=by
 obtain⟨d,k,i,l,m⟩:=yE hc;have g:di q.keys.xs (az ts q.src.xs)=true/\q.keys.xs.length<=4:=by
  unfold ae.check checkN at hc;split at hc
  ·omega
  ·split at hc
   ·omega
   ·rename_i _ hf
    split at hc
    ·rename_i hr
     have a:=hr.2.2.2;unfold xy at a;simp only[Qj]at a;obtain⟨⟨⟨⟨⟨⟨⟨_,s⟩,_⟩,_⟩,_⟩,_⟩,_⟩,_⟩:=a;unfold oF at hf;simp_all
    ·omega
 refine⟨d.ok,hf,hs,k,d.five,d.eight,i,l,EK g.1,λo=>?_,g.2,hk,hn⟩;intro c e;unfold jw at e;rw[QZ]at e;obtain⟨p,n,rfl⟩:=e;have b:=i o;unfold di at b;rw[Qk]at b;have j:=b p n;simp only[Qj,Qs]at j;have r:p.toNat<q.bA.xs.length:=by omega
 refine EK m _ ?_;grind
section
theorem SQ{P:Program}{c:Code}{Q J:Exit->Act->World->Prop}{a:Act}(h:c.wp P J a w)(hQ:∀ e a w,J e a w->Q e a w):c.wp P Q a w:=λb k cs=>by obtain⟨e,d,w',f,g⟩:=h b k cs;exact⟨e,d,w',hQ _ _ _ f,g⟩
def GX(X:Nat->Prop)(sb k:Nat)(gv:Value)(gb:Nat->Nat):Nat->Prop:=λb=>¬ X b/\b≠sb/\gv.ownBlock≠some b/\∀ j,j<k->b≠gb j
theorem ac8{Tl:TypeId}{F:Nat->Prop}{base:Nat}{os:List ai}(h:jB Tl F base w v os)(h0:0<os.length) :
  ∃ a b,v=.slice (some (aD a 0)) os.length b/\os.length<=b/\b<=9223372036854775807/\base<=a/\∀ m,m<=os.length->bT w (some (aD a 0)) m (λi=>((os.take m).getD i gQ).val):=by
 rcases h.own.2 with⟨_,h1⟩ | ⟨g,cap,cur,rfl,hb,hh,hc,d,hs,ht⟩
 ·omega
 refine⟨g,cap,rfl,hc,by unfold maxLen at d; omega,hb,λm d i f=>⟨g,0,rfl,?_⟩⟩;rw[QL,Qy (show GB w g _ cur from hh) i];have e:(cur.toList.take (os.length*1))[i]? = some ((os.take m).getD i gQ).val:=by grind
 grind
def CY(ts:List af)(q:ae)(room j:Nat):List (List Int):=(bH ts q j).take room
def nV(ts:List af)(q:ae)(room k:Nat):Bool:=(List.range k).any λs=>decide (room<(bH ts q s).length)
theorem Yv(ts:List af)(q:ae)(room k:Nat):nV ts q room (k+1)=(nV ts q room k || decide (room<(bH ts q k).length)):=by unfold nV;grind
def ND(gv:Value)(cu:Bool)(bt:Nat):Array Value:=#[gv,.slice none 0 0,.bool cu,.pointer (some (aD bt 0)),.slice none 0 0,.int .i64 1]
structure om(W0:World)(f:aC)(ts:List af)(q:ae)(X:Nat->Prop)(room:Nat)(w0:World)(vb sb k:Nat)(cu:Bool)(gv:Value)(gb cp:Nat->Nat)(os:Nat->List ai)(bt:Nat)(x:World):Prop where
 hz:Fz (λb=>¬ X b) W0 x
 old:Bw w0 x
 root:W0.heap.size<=w0.heap.size
 xlt:∀ b,X b->b<w0.heap.size
 SX:w0.heap.size<sb/\w0.heap.size<vb/\vb≠sb
 fbg:GB x w0.heap.size 68 (f.cells ts q)
 var:GB x vb 57 #[.pointer (some (aD sb 0))]
 blk:GB x sb 97 (f.cells ts q++ND gv cu bt)
 own:x.ownsRow w0.heap.size 116 1 gv k ((List.range k).map λj=>Value.slice (some (aD (gb j) 0)) (dE (CY ts q room j)).length (cp j))
 jd:∀ j,j<k->bM 135 160 (GX X sb k gv gb) x (gb j) (λ_=>0) (os j) (dE (CY ts q room j))/\w0.heap.size<=gb j/\(dE (CY ts q room j)).length<=cp j/\cp j<=9223372036854775807
 apart:∀ i j,i<k->j<k->gb i=gb j->i=j
 bq:aT 135 (GX X sb k gv gb) x bt (iE ts q)
variable {W0:World} {f:aC} {ts:List af} {q:ae} {X:Nat->Prop} {room:Nat} {w0:World} {vb sb k:Nat} {cu:Bool} {gv:Value} {gb cp:Nat->Nat} {os:Nat->List ai} {bt:Nat} {x:World}
theorem om.ne(h:om W0 f ts q X room w0 vb sb k cu gv gb cp os bt x):gv.ownBlock≠some sb/\gv.ownBlock≠some vb/\gv.ownBlock≠some w0.heap.size/\∀ j,j<k->gv.ownBlock≠some (gb j)/\gb j≠sb/\gb j≠vb/\gb j≠w0.heap.size:=by refine⟨jq h.own h.blk (by decide),jq h.own h.var (by decide),jq h.own h.fbg (by decide),λj b=>?_⟩;obtain⟨c,a⟩:=(h.jd j b).1.tp;exact⟨jq h.own a (by decide),λe=>absurd (GB.tp a (e ▸ h.blk)) (by decide),λe=>absurd (GB.tp a (e ▸ h.var)) (by decide),λe=>absurd (GB.tp a (e ▸ h.fbg)) (by decide)⟩
theorem om.below(h:om W0 f ts q X room w0 vb sb k cu gv gb cp os bt x){y:World}(hb:Bw x y):om W0 f ts q X room w0 vb sb k cu gv gb cp os bt y:=by have a:Kept (λb=>b<x.heap.size) x y:=Q7 hb (λ_ h _=>h);exact⟨h.hz.next hb,h.old.trans (hb.mono h.old.size),h.root,h.xlt,h.SX,h.fbg.keep a h.fbg.lt,h.var.keep a h.var.lt,h.blk.keep a h.blk.lt,ZM h.own hb,λj d=>⟨(h.jd j d).1.below hb,(h.jd j d).2⟩,h.apart,h.bq.below hb⟩
theorem om.flag(h:om W0 f ts q X room w0 vb sb k cu gv gb cp os bt x){c2:Bool}(hk:Kept (λb=>b≠sb) x y)(hblk:GB y sb 97 (f.cells ts q++ND gv c2 bt)):om W0 f ts q X room w0 vb sb k c2 gv gb cp os bt y:=by
 have i:=h.ne;refine⟨⟨h.hz.below.kept hk λb a e=>?_,h.hz.low,λb a=>h.hz.high b (Q6 hk.size a)⟩,h.old.trans (hk.below h.old.size λb a=>?_),h.root,h.xlt,h.SX,h.fbg.keep hk ?_,h.var.keep hk h.SX.2.2,hblk,Zi h.own hk λg e l=>i.1 (l ▸ e),λj d=>⟨(h.jd j d).1.bI (hk.mono λb _ a=>?_),(h.jd j d).2⟩,h.apart,h.bq.bI (hk.mono λb _ a=>a.2.1)⟩
 ·have:=a.lt;have:=h.root;have:=h.SX.1;omega
 ·have:=h.SX.1;omega
 ·have:=h.SX.1;omega
 ·rcases a with a | a
  ·exact a.2.1
  grind
theorem om.fz(h:om W0 f ts q X room w0 vb sb k cu gv gb cp os bt x):Fz (GX X sb k gv gb) W0 x:=by
 refine⟨h.hz.below,λb a=>⟨h.hz.low b a,?_,λe=>?_,λj d e=>?_⟩,λb a=>⟨h.hz.high b a,?_,λe=>?_,λj d e=>?_⟩⟩
 ·have:=a.lt;have:=h.root;have:=h.SX.1;omega
 ·have:=a.lt;have:=(Zj h.own e).1;have:=h.root;omega
 ·have:=a.lt;have:=(h.jd j d).2.1;have:=h.root;omega
 ·have:=h.blk.lt;omega
 ·have:=(Zj h.own e).2;omega
 ·obtain⟨c,g⟩:=(h.jd j d).1.tp;have:=g.lt;omega
theorem om.push(h:om W0 f ts q X room w0 vb sb k cu gv gb cp os bt x){y1 y2 y5:World}(hb1:Bw x y1)(hb2:Bw y1 y2){gn cn:Nat}{on:List ai}(hg:bM 135 160 (λb=>GX X sb k gv gb b/\b<y1.heap.size) y2 gn (λ_=>0) on (dE (CY ts q room k)))(hgn:y1.heap.size<=gn/\gn<y2.heap.size)(hcn:(dE (CY ts q room k)).length<=cn/\cn<=9223372036854775807){gv':Value}(ho:y5.ownsRow w0.heap.size 116 1 gv' (k+1) (((List.range k).map λj=>Value.slice (some (aD (gb j) 0)) (dE (CY ts q room j)).length (cp j))++[Value.slice (some (aD gn 0)) (dE (CY ts q room k)).length cn]))(hk:Kept (λb=>b≠sb/\gv.ownBlock≠some b) y2 y5)(hat:gv'.ownBlock=gv.ownBlock∨gv'.ownBlock=some (y2.heap.size+1))(hblk:GB y5 sb 97 (f.cells ts q++ND gv' cu bt)) :
  om W0 f ts q X room w0 vb sb (k+1) cu gv' (λj=>if j=k then gn else gb j) (λj=>if j=k then cn else cp j) (λj=>if j=k then on else os j) bt y5:=by
 have u:=h.ne;have y:=aF hb1 hb2;have z:=hb1.size;have A:=hb2.size;have B:=h.old.size;have t:∀ j,j<k->gb j<x.heap.size:=λj p=>by obtain⟨c,H⟩:=(h.jd j p).1.tp;exact H.lt
 have m:∀ b,gv.ownBlock=some b->b<x.heap.size:=λb e=>(Zj h.own e).2;have d:=(Q7 (s:=λb=>b≠sb/\gv.ownBlock≠some b) y (λb l _=>l)).trans hk;have g:∀ b,b<y1.heap.size->GX X sb k gv gb b->GX X sb (k+1) gv' (λj=>if j=k then gn else gb j) b:=λb l a=>by
  refine⟨a.1,a.2.1,λe=>?_,λj p=>?_⟩
  ·rcases hat with r | r
   ·exact a.2.2.1 (r ▸ e)
   grind
  ·show b≠if j=k then gn else gb j
   split
   ·omega
   ·exact a.2.2.2 j (by omega)
 have C:∀ i,i<k->gn≠gb i:=λi w e=>by have:=t i w; omega
 have n:∀ b,b<x.heap.size->GX X sb k gv gb b->GX X sb (k+1) gv' (λj=>if j=k then gn else gb j) b:=λb l=>g b (by omega);have D:∀ b,GX X sb (k+1) gv' (λj=>if j=k then gn else gb j) b->gv'.ownBlock≠some b:=λb a=>a.2.2.1;have E:∀ b,GX X sb (k+1) gv' (λj=>if j=k then gn else gb j) b->b<x.heap.size->gv'.ownBlock=gv.ownBlock->gv.ownBlock≠some b:=λb a _ e=>e ▸ a.2.2.1
 -- trees and orders of before lie outside of the old list too: they are first kept,then read with the wider names
 have F:Kept (GX X sb k gv gb) x y5:=d.mono λb _ a=>⟨a.2.1,a.2.2.1⟩;refine⟨⟨h.hz.below.kept d λb a=>⟨λe=>?_,λe=>?_⟩,h.hz.low,λb a=>h.hz.high b (Q6 d.size a)⟩,h.old.trans (d.below h.old.size λb a=>⟨?_,λe=>?_⟩),h.root,h.xlt,h.SX,h.fbg.keep d ⟨?_,u.2.2.1⟩,h.var.keep d ⟨h.SX.2.2,u.2.1⟩,hblk,?_,λj p=>?_,λi j w p e=>?_,?_⟩
 ·have:=a.lt;have:=h.root;have:=h.SX.1;omega
 ·have:=a.lt;have:=(Zj h.own e).1;have:=h.root;omega
 ·have:=h.SX.1;omega
 ·have:=(Zj h.own e).1;omega
 ·have:=h.SX.1;omega
 ·have e:(List.range (k+1)).map (λj=>Value.slice (some ⟨if j=k then gn else gb j,0,none⟩) (dE (CY ts q room j)).length (if j=k then cn else cp j))=((List.range k).map λj=>Value.slice (some (aD (gb j) 0)) (dE (CY ts q room j)).length (cp j))++[Value.slice (some (aD gn 0)) (dE (CY ts q room k)).length cn]:=by
   rw[QM,Qi];congr 1
   ·refine List.map_congr_left λj p=>?_
    grind
   ·simp
  rw[e];exact ho
 ·by_cases e:j=k
  ·subst e;simp only[Qo];refine⟨bM.mono (hg.bI (hk.mono λb _ a=>?_)) λb _ a=>g b a.2 a.1,by omega,hcn⟩;rcases a with a | a
   ·exact⟨a.1.2.1,a.1.2.2.1⟩
   ·rw[a];refine⟨λe=>?_,λe=>?_⟩
    ·have:=h.blk.lt;omega
    ·have:=m _ e;omega
  ·simp only[Qu e];have o:j<k:=by omega
   refine⟨((h.jd j o).1.mono (G:=λb=>GX X sb k gv gb b/\b<x.heap.size) (λb l a=>⟨a,l⟩) |>.bI (d.mono λb _ a=>?_)).mono λb _ a=>n b a.2 a.1,(h.jd j o).2⟩;rcases a with a | a
   ·exact⟨a.1.2.1,a.1.2.2.1⟩
   grind
 ·have v:=e;by_cases r:i=k
  ·grind
  ·by_cases I:j=k
   ·grind
   ·rw[Qu r,Qu I]at v;exact h.apart i j (by omega) (by omega) v
 ·exact((h.bq.mono (G:=λb=>GX X sb k gv gb b/\b<x.heap.size) (λb l a=>⟨a,l⟩)).bI (d.mono λb _ a=>⟨a.1.2.1,a.1.2.2.1⟩)).mono λb _ a=>n b a.2 a.1
theorem om.search(h:om W0 f ts q X room w0 vb sb k cu gv gb cp os bt x)(h0:0<k) :
  ∃ L:tJ,L.av=.slice none 0 0/\L.pv=.slice none 0 0/\fe W0 f ts q (λb=>X b∨(b=sb∨∃ j,j<k/\b=gb j)) (λb=>b=sb∨∃ j,j<k/\b=gb j) x sb L ⟨(List.range k).map λs=>dE (CY ts q room s),[],cu,iE ts q,[],1⟩:=by
 have t:=h.ne;have o:∀ b,GX X sb k gv gb b->¬ (X b∨(b=sb∨∃ j,j<k/\b=gb j)):=λb a h0=>by
  rcases h0 with h0 | h0 | ⟨j,d,h0⟩
  ·exact a.1 h0
  ·exact a.2.1 h0
  ·exact a.2.2.2 j d h0
 have p:∀ j,j<k->((List.range k).map λs=>dE (CY ts q room s)).getD j []=dE (CY ts q room j):=λj d=>by grind
 have m:=h.fz;have n:=h.own;rcases n.2 with⟨_,h1⟩ | ⟨g,cap,cur,rfl,a,hh,hc,hm,hs,ht⟩
 ·omega
 have r:∀ j,j<k->x.cell? (aD g j)=some (.slice (some (aD (gb j) 0)) (dE (CY ts q room j)).length (cp j)):=λj d=>by
  rw[Qy (show GB x g _ cur from hh) j];have v:(cur.toList.take (k*1))[j]? = some (.slice (some (aD (gb j) 0)) (dE (CY ts q room j)).length (cp j)):=by rw[ht,ZL,Xr (by simpa using d)];simp
  grind
 refine⟨⟨g,cap,gb,cp,λ_ _=>0,os,.slice none 0 0,bt,.slice none 0 0⟩,rfl,rfl,⟨h.hz.below,λb a=>o b (m.low b a),λb a=>o b (m.high b a)⟩,λb a=>.inr a,.inl rfl,?_,?_,(Zb.1 hh).1,λj d=>?_,λj d=>?_,λi j u d e=>?_,Zu _ _ _ _,(λb e=>by cases e),h.bq.mono λb _ a=>o b a,Zu _ _ _ _,(λb e=>by cases e)⟩
 ·have e:jA ⟨g,cap,gb,cp,λ_ _=>0,os,.slice none 0 0,bt,.slice none 0 0⟩ ⟨(List.range k).map λs=>dE (CY ts q room s),[],cu,iE ts q,[],1⟩=ND (.slice (some (aD g 0)) k cap) cu bt:=by unfold jA ND;simp
  rw[e];exact h.blk
 ·show ¬ (X g∨(g=sb∨∃ j,j<k/\g=gb j))
  rintro (h0 | h0 | ⟨j,d,h0⟩)
  ·have:=h.xlt g h0;omega
  ·exact t.1 (by rw[h0]; rfl)
  ·exact(t.2.2.2 j d).1 (by rw[h0]; rfl)
 ·grind
 ·have l:j<k:=by simpa using d
  show bM _ _ _ _ (gb j) (λ_=>0) (os j) (((List.range k).map λs=>dE (CY ts q room s)).getD j [])/\(gb j=sb∨∃ i,i<k/\gb j=gb i)/\(((List.range k).map λs=>dE (CY ts q room s)).getD j []).length<=cp j/\cp j<=9223372036854775807;rw[p j l];exact⟨(h.jd j l).1.mono λb _ a=>o b a,.inr ⟨j,l,rfl⟩,(h.jd j l).2.2⟩
 ·exact h.apart i j (by simpa using u) (by simpa using d) e
theorem Tryz.Yw:(Tryz.prog.info? 116).map (λi=>(i.zero,i.size,i.bytes))=some (some (.slice none 0 0),1,24):=by kernel_rfl
theorem NF(W:World)(base:Nat)(v:Value)(n:Nat)(xs:List Value)(hown:W.ownsRow base 116 1 v n xs)(hl:n<=1000)(hb:base<=W.heap.size)(ga:Option Addr)(gl gc:Nat)(ty:TypeId) :
  ∃ d w',(Builtin.append_ #[92,92] ty #[v,.slice (some (aD W.heap.size 0)) 1 1]).run Tryz.prog (W.alloc (.cells #[.slice ga gl gc] 116))=.ok d w'/\
   w'.ownsRow base 116 1 d (n+1) (xs++[.slice ga gl gc])/\Kept (λb=>v.ownBlock≠some b) W w'/\(∃ a m c,d = .slice a m c)/\(d.ownBlock=v.ownBlock∨d.ownBlock=some (W.heap.size+1)):=by
 obtain⟨k,l,e,f,g⟩:=Zv Tryz.Yw;obtain⟨d,w',o,p,q,r,i⟩:=jX (P:=Tryz.prog) W base 92 ty 116 k _ 1 24 Tryz.underlying92 l e f g rfl (by decide) v n _ hown hb [.slice ga gl gc] rfl (λu j=>by
  rw[Zy]at j;rw[j];rfl) hl (by decide)
 exact⟨d,w',o,p,q,r,i⟩
end
