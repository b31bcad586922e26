import Derived.Test.YtgemohlbjehmbaaGreatDoorF20
set_option linter.all false
set_option maxRecDepth 100000
set_option maxHeartbeats 16000000
namespace Go.Proofs.Zz
open Go.RowKit Go.Shelf
variable {F:Nat->Prop} {W0 w w' w0:World} {f:aC} {ts:List af} {q:ae} {v v':Value} {T Tp:TypeId} {a base gb k:Nat} {t:aQ} {bs:List (Nat × aQ)} {g:List aj} {x:Nat × aQ} {A:Nat->Nat} {os:List ai}
theorem EJ(E:Env f ts q W0)(hz:Fz F W0 w)(a:Nat)(t:aQ)(ht:aT 135 F w a t)(hto:kN q t)(o:ai)(ho:o.At w)(hof:qE F o.ad o.xs.length)(hon:o.ad=none->o.cap=0)(hoc:o.xs.length<=o.cap)(hol:o.xs.length<=1000) :
  Calls Tryz.prog 155 #[.agg (f.cells ts q),.pointer (some (aD a 0)),o.val] w (dw 135 F w (bD ts q t o.xs)):=by
 obtain⟨v0,y,z,v3,v4,v5,A,B,C,v9,i,j,k,D,-⟩:=Z6 f ts q;have I:Hid (∀ x b,Bw w x->x.cell? (aD b 0)=some (.pointer (some (aD a 0)))->Calls Tryz.prog 80 #[.agg #[v0,y,z,v3,v4,v5,A,B,C,v9,i,j,k],.agg #[.int .i64 6,.int .i64 0,.int .i64 0,.int .i64 0,.slice none 0 0,.int .i64 0,o.val],.slice (some (aD b 0)) 1 1] x (dw 135 F x (bD ts q t o.xs))):=λx b v P=>by rw[<- D];exact uU E (hz.next v) ⟨6,0,0,0,gQ,0,o⟩ ⟨jS x,qE.nil _ _,λ_=>rfl,Ql v ho,hof,hon,hoc,QK _,hol⟩ a b t (ht.below v) hto P rfl (by decide:(2:Int)<=6) (by decide:(6:Int)<=10) (Xl _)
 rw[D];generalize bD ts q t o.xs=R at *;obtain⟨Q,S,T⟩:=o;simp only[ai.val]at *;obtain⟨G,L,m,n⟩:=bn w #[v0,y,z,v3,v4,v5,A,B,C,v9,i,j,k] 68;obtain⟨a0,U,V,a3,a4,a5,W,X,Y,a9,Z,jE,M⟩:=n.k13;obtain⟨H,l⟩:∃ x,G.alloc (.cells #[.pointer (some (aD a 0))] 95)=x:=⟨_,rfl⟩;have d:Bw w H:=aF m (by rw[<- l]; exact fq _ _);have J:=I.o H G.heap.size d (by rw[<- l]; simp);have g:=Zh d;go_enter Tryz.func155,Tryz.ntmps155;go_wp2_with fail;refine J.mono ?_;rintro e N ⟨r,rfl,O,p,s,u⟩;have K:Hid (dw 135 F w R (.returned (.pointer (some (aD r 0)))) N):=⟨r,rfl,O,Q6 g.o.size p,s,aF g.o u⟩;go_wp2;go_ret;exact K.o
theorem zV(E:Env f ts q W0)(hz:Fz F W0 w)(a:Nat)(t:aQ)(ht:aT 135 F w a t)(hto:kN q t)(c:Nat)(hc:c<2 ^ q.wh.length)(hal:a<w.heap.size) :
  Calls Tryz.prog 81 #[.agg (f.cells ts q),.pointer (some (aD a 0)),.int .u64 (c:Int)] w λe w'=>∃ r,e=.returned (.pointer (some (aD r 0)))/\aT 135 F w' r (bY ts q t c)/\(r=a∨w.heap.size<=r)/\r<w'.heap.size/\Bw w w':=by
 by_cases X:c=0
 ·subst X;have HT:Hid (aT 135 F w a (bY ts q t 0)):=by unfold bY;rw[Qo rfl];exact ht
  generalize bY ts q t 0=R at *;obtain⟨v0,O,P,v3,v4,v5,Q,S,T,v9,k,l,m,Y,-⟩:=Z6 f ts q;rw[Y];have aa:=Zh hal;obtain⟨w1,U⟩:∃ x,w.alloc (.cells #[v0,O,P,v3,v4,v5,Q,S,T,v9,k,l,m] 68)=x:=⟨_,rfl⟩;have g:Hid (Bw w w1):=by show Below _ _ _; rw[<- U]; exact fq _ _
  go_enter Tryz.func81,Tryz.ntmps81;go_wp2;go_ret;exact⟨a,rfl,HT.o.below g.o,.inl rfl,QH aa.o g.o.size,g.o⟩
 have hR:bY ts q t c=ay ts q (zt (cZ c)) [t]:=by unfold bY; rw[Qu X]
 have au:(((c:Nat):Int)==0)=false:=by grind
 rw[hR];have Rp:c<18446744073709551616:=QH hc (QI (n:=2) (by omega) E.ok.oG);obtain⟨v0,O,P,v3,v4,v5,Q,S,T,v9,k,l,m,Y,-⟩:=Z6 f ts q;have Bq:Hid (∀ x,Calls Tryz.prog 96 #[.int .u64 (c:Int)] x λe w'=>∃ v,e=.returned v/\w'.ownsRow x.heap.size 3 1 v (cZ c).length ((cZ c).map (Value.int .i64))/\Bw x w'):=λx=>Ez c Rp x;have WU:Hid ((cZ c).length<=64):=by show _<=_;unfold cZ bB;grind
 have sH:Hid (∀ x b (iv:ai),Bw w x->(iv.xs=cZ c/\iv.At x/\qE F iv.ad iv.xs.length/\(iv.ad=none->iv.cap=0))->x.cell? (aD b 0)=some (.pointer (some (aD a 0)))->Calls Tryz.prog 80 #[.agg #[v0,O,P,v3,v4,v5,Q,S,T,v9,k,l,m],.agg #[.int .i64 2,.int .i64 0,.int .i64 0,.int .i64 0,iv.val,.int .i64 0,.slice none 0 0],.slice (some (aD b 0)) 1 1] x (dw 135 F x (ay ts q (zt (cZ c)) [t]))):=λx b iv hx N M=>by rw[<- Y,<- N.1];exact uU E (hz.next hx) ⟨2,0,0,0,iv,0,gQ⟩ ⟨N.2.1,N.2.2.1,N.2.2.2,jS x,qE.nil _ _,λ_=>rfl,Qn _,(by rw[N.1]; have:=WU.o; omega),QK _⟩ a b t (ht.below hx) hto M rfl (by decide:(2:Int)<=2) (by decide:(2:Int)<=10) (by rw[N.1]; exact sU hc)
 have zT:=Zh hz.high;rw[Y];generalize ay ts q (zt (cZ c)) [t]=R at *;generalize cZ c=L at *;obtain⟨w1,U,ah,aj⟩:=bn w #[v0,O,P,v3,v4,v5,Q,S,T,v9,k,l,m] 68;obtain⟨a0,a1,a2,a3,a4,a5,a6,a7,a8,a9,ji,jE,ak⟩:=aj.k13;have g:=Zh ah;go_enter Tryz.func81,Tryz.ntmps81;go_wp2_with fail;refine wH w1 λd=>?_;refine wT 0 (.agg #[v0,O,P,v3,v4,v5,Q,S,T,v9,k,l,m]) d (λx hx=>?_) ?_
 ·have e0:=l7 hx a0 a1 a2 a3 a4 a5 a6 a7 a8 a9 ji jE ak;go_simp
 refine wt 1 (.int .u64 (c:Int)) d ?_;refine wt 4 (.pointer (some (aD a 0))) d ?_;refine wJ 2 5 (λK j=>?_) λK j=>?_
 ·skip;go_simp;refine Z5 (Bq.o _) ?_;rintro e Z ⟨v,rfl,hv,hb⟩;obtain⟨iv,V,p,s,i⟩:=pG hv (by have:=WU.o; omega);obtain⟨C,W,D⟩:=iv;simp only[ai.val]at V p s i;subst p;subst V;have y:=d.trans (hb.mono d.size);have z:qE F C D.length:=λ_ a' e=>zT.o _ (Q6 g.o.size (Q6 d.size (i.1 a' e)))
  refine j.o _ _ y λd=>?_;refine wt 3 (.agg #[.int .i64 2,.int .i64 0,.int .i64 0,.int .i64 0,.slice C D.length W,.int .i64 0,.slice none 0 0]) d ?_;refine wR 5 λK j=>?_;go_simp;refine oA j d λd=>?_;have A:=fq Z (.cells #[.pointer (some (aD a 0))] 95);have B:=d.size;refine wR 6 λK j=>?_;go_simp;refine Z5 (sH.o _ _ ⟨C,W,D⟩ (aF g.o d) ⟨rfl,Ql A s,z,i.2.1⟩ (by simp)) ?_;rintro e G ⟨r,rfl,hT,H,I,J⟩;refine oT j d J λd=>?_;refine wR 7 λK j=>?_;go_simp;refine j.o _ _ d λd=>?_;refine wD ?_;try simp only[pV]
  have HP:Hid (∃ u,Ending.returned (.pointer (some (aD r 0)))=.returned (.pointer (some (aD u 0)))/\aT 135 F G u R/\(u = a∨w.heap.size<=u)/\u<G.heap.size/\Bw w G):=⟨r,rfl,hT,.inr (Q6 g.o.size (Q6 B H)),I,aF g.o d⟩;go_wp2;go_ret;exact HP.o
 ·skip;go_simp;refine oA j d λd=>?_
  refine wR 2 λK j=>?_;go_simp;refine Z5 (Bq.o _) ?_;rintro e Z ⟨v,rfl,hv,hb⟩;obtain⟨iv,V,p,s,i⟩:=pG hv (by have:=WU.o; omega);obtain⟨C,W,D⟩:=iv;simp only[ai.val]at V p s i;subst p;subst V;have y:=d.trans (hb.mono d.size);have z:qE F C D.length:=λ_ a' e=>zT.o _ (Q6 g.o.size (Q6 d.size (i.1 a' e)));have ag:=cB hb (show _=some (Value.pointer (some (aD a 0))) from (RH (qH _ (.cells #[.pointer (some (aD a 0))] 95))));refine j.o _ _ y λd=>?_;have A:=Qm Z.heap.size Z;have B:=d.size;refine wt 3 (.agg #[.int .i64 2,.int .i64 0,.int .i64 0,.int .i64 0,.slice C D.length W,.int .i64 0,.slice none 0 0]) d ?_;refine wR 6 λK j=>?_;go_simp;refine Z5 (sH.o _ _ ⟨C,W,D⟩ (aF g.o d) ⟨rfl,Ql A s,z,i.2.1⟩ (ag)) ?_;rintro e G ⟨r,rfl,hT,H,I,J⟩;refine oT j d J λd=>?_;refine wR 7 λK j=>?_;go_simp;refine j.o _ _ d λd=>?_;refine wD ?_;try simp only[pV]
  have HP:Hid (∃ u,Ending.returned (.pointer (some (aD r 0)))=.returned (.pointer (some (aD u 0)))/\aT 135 F G u R/\(u = a∨w.heap.size<=u)/\u<G.heap.size/\Bw w G):=⟨r,rfl,hT,.inr (Q6 g.o.size (Q6 B H)),I,aF g.o d⟩;go_wp2;go_ret;exact HP.o
theorem M8(E:Env f ts q W0)(hz:Fz F W0 w)(s:Int)(h0:0<=s)(h1:s<q.src.xs.length) :
  Calls Tryz.prog 95 #[.agg (f.cells ts q),.int .i64 s] w (dw 135 F w (bQ ts q (aN ts q) s)):=by
 obtain⟨v0,z,A,v3,v4,v5,B,C,D,v9,j,k,l,P,-⟩:=Z6 f ts q;obtain⟨i,y⟩:∃ t,t=ay ts q (iV s) []:=⟨_,rfl⟩;have G:kN q i:=by rw[y]; exact mf ts q _ _ ⟨(by decide:(1:Int)<=1),(by decide:(1:Int)<=10)⟩ (λ_=>⟨h0,h1⟩) (Xl _) (λb N=>by cases N)
 have Q:i.d.sources<18446744073709551616:=QH G.src (QI (n:=2) (by omega) E.ok.small);have sH:Hid (∀ x,Bw w x->Calls Tryz.prog 80 #[.agg #[v0,z,A,v3,v4,v5,B,C,D,v9,j,k,l],.agg #[.int .i64 1,.int .i64 0,.int .i64 0,.int .i64 s,.slice none 0 0,.int .i64 0,.slice none 0 0],.slice none 0 0] x (dw 135 F x i)):=λx v=>by rw[<- P,y];exact IX E (hz.next v) s h0 h1
 have S:Hid (∀ x,Bw w x->Cb 135 #[.agg #[v0,z,A,v3,v4,v5,B,C,D,v9,j,k,l],.int .u64 (i.d.sources:Int)] x (.int .u64 ((aY (aN ts q) i.d.sources:Nat):Int))):=λx v=>by rw[<- P];exact CQ f ts q _ x E.ok ((E.at' hz).below v) Q
 have zW:Hid (∀ x r,Bw w x->aT 135 F x r i->r<x.heap.size->Calls Tryz.prog 81 #[.agg #[v0,z,A,v3,v4,v5,B,C,D,v9,j,k,l],.pointer (some (aD r 0)),.int .u64 ((aY (aN ts q) i.d.sources:Nat):Int)] x λe w'=>∃ u,e=.returned (.pointer (some (aD u 0)))/\aT 135 F w' u (bY ts q i (aY (aN ts q) i.d.sources))/\(u = r∨x.heap.size<=u)/\u<w'.heap.size/\Bw x w'):=λx r v hr hl=>by rw[<- P];exact zV E (hz.next v) r i hr G _ (by have:=jL (aN ts q) i.d.sources (aN ts q).length; rw[ZB]at this; unfold aY; rw[ZB]; exact this) hl
 have hR:bQ ts q (aN ts q) s=bY ts q i (aY (aN ts q) i.d.sources):=by rw[y]; rfl
 rw[hR,P];generalize bY ts q i (aY (aN ts q) i.d.sources)=R at *;generalize aY (aN ts q) i.d.sources=wi at *;obtain⟨w1,aj,M,X⟩:=bn w #[v0,z,A,v3,v4,v5,B,C,D,v9,j,k,l] 68;obtain⟨a0,a1,a2,a3,a4,a5,a6,a7,a8,a9,ji,jE,Y⟩:=X.k13;have H:=Zh M;have WS:=sH.o w1 M;go_enter Tryz.func95,Tryz.ntmps95;go_wp2_with fail;refine WS.mono ?_;rintro e w2 ⟨r,rfl,hT,Z,aa,a⟩;have b0:=cB a a0;have b1:=cB a a1;have b2:=cB a a2;have b3:=cB a a3;have b4:=cB a a4;have b5:=cB a a5;have b6:=cB a a6;have b7:=cB a a7;have b8:=cB a a8;have b9:=cB a a9;have I:=cB a ji;have J:=cB a jE;have L:=cB a Y;obtain⟨p,hP,Bd⟩:=hT.mg;have p1:w2.cell? (aD r 1)=some (.int .u64 (i.d.sources:Int)):=by have:=hP.c1;have e:p.sources=i.d.sources:=congrArg bK.sources Bd;rw[e]at this;exact this
 have HT:=Zh hT;have T:=Zh Z;have U:=Zh aa;have m:=Zh (aF H.o a);generalize i.d.sources=sr at *;go_wp2_with fail;refine wH w2 λg=>?_;refine wT 0 (.agg #[v0,z,A,v3,v4,v5,B,C,D,v9,j,k,l]) g (λx v=>?_) ?_
 ·have e0:=l7 v b0 b1 b2 b3 b4 b5 b6 b7 b8 b9 I J L;go_simp
 refine wt 1 (.pointer (some (aD r 0))) g ?_;refine wT 2 (.agg #[v0,z,A,v3,v4,v5,B,C,D,v9,j,k,l]) g (λx v=>?_) ?_
 ·have e0:=l7 v b0 b1 b2 b3 b4 b5 b6 b7 b8 b9 I J L;go_simp
 refine wt 3 (.pointer (some (aD r 0))) g ?_;refine wt 4 (.pointer (some (aD r 0))) g ?_;refine wt 5 (.pointer (some (aD r 0))) g ?_;refine wt 6 (.pointer (some (aD r 1))) g ?_;refine l8 7 (.int .u64 (sr:Int)) g p1 ?_;refine wR 8 λK O=>?_;go_simp;refine Z5 (S.o _ (aF m.o g)) ?_;rintro e w3 ⟨rfl,N⟩;refine oT O g N λg=>?_;refine wR 9 λK O=>?_;go_simp;refine Z5 (zW.o _ r (aF m.o g) (HT.o.below g) (QH U.o g.size)) ?_;rintro e w4 ⟨u,rfl,ag,ah,ai,N⟩;have V:=g.size;refine oT O g N λg=>?_;refine wR 10 λK O=>?_;go_simp;refine O.o _ _ g λg=>?_;refine wD ?_;try simp only[pU]
 have W:w.heap.size<=u:=by
  rcases ah with h | h
  ·rw[h]; exact Q6 H.o.size T.o
  ·exact Q6 m.o.size (Q6 V h)
 have HP:Hid (dw 135 F w R (.returned (.pointer (some (aD u 0)))) w4):=⟨u,rfl,ag,W,ai,aF m.o g⟩;go_wp2;go_ret;exact HP.o
theorem X5(E:Env f ts q W0)(hz:Fz F W0 w)(a:Nat)(t:aQ)(ht:aT 135 F w a t)(hto:kN q t) :
  Calls Tryz.prog 154 #[.agg (f.cells ts q),.pointer (some (aD a 0))] w (dw 135 F w (fG ts q t)):=by
 obtain⟨v0,B,C,v3,v4,v5,D,v7,v8,v9,T,U,V,bR,az,aA,aB,aG,aH,aI,aJ,-⟩:=Z6 f ts q;have xI:q.cells=#[v0,B,C,v3,v4,v5,D]:=by rw[az,aA,aB,aG,aH,aI,aJ]; rfl
 clear az aA aB aG aH aI aJ;obtain⟨K,l⟩:∃ k,bg q t.d.order=k:=⟨_,rfl⟩;have aM:=EM q t.d.order;rw[l]at aM;obtain⟨G,z⟩:∃ u,ay ts q (dU K) [t]=u:=⟨_,rfl⟩;have A:kN q G:=by rw[<- z]; exact ES ts (by omega) (by omega) hto
 obtain⟨T2,ET⟩:∃ u,ay ts q (dU 10) [G]=u:=⟨_,rfl⟩;have hR:fG ts q t=if gL q K t.d.order=true then G else T2:=by unfold fG; simp only; rw[l,z,ET]
 obtain⟨R,W⟩:=eY (fG ts q t);rw[<- W];have aa:Hid (R=if gL q K t.d.order=true then G else T2):=by rw[<- hR]; exact W
 clear W;obtain⟨p,Z,Bd⟩:=ht.mg;have v:p.order.xs=t.d.order:=congrArg bK.order Bd;have uk:Hid (∀ x b,Bw w x->x.cell? (aD b 0)=some (.pointer (some (aD a 0)))->Calls Tryz.prog 80 #[.agg #[v0,B,C,v3,v4,v5,D,v7,v8,v9,T,U,V],.agg #[.int .i64 K,.int .i64 0,.int .i64 0,.int .i64 0,.slice none 0 0,.int .i64 0,.slice none 0 0],.slice (some (aD b 0)) 1 1] x (dw 135 F x G)):=λx b j hc=>by rw[<- bR,<- z];exact uU E (hz.next j) ⟨K,0,0,0,gQ,0,gQ⟩ ⟨jS x,qE.nil _ _,λ_=>rfl,jS x,qE.nil _ _,λ_=>rfl,Qn _,QK _,QK _⟩ a b t (ht.below j) hto hc (X0 (by show 6<=K; omega)) (by show 2<=K; omega) (by show K<=10; omega) (Xl _)
 have aN:Hid (∀ x b r,Bw w x->aT 135 F x r G->x.cell? (aD b 0)=some (.pointer (some (aD r 0)))->Calls Tryz.prog 80 #[.agg #[v0,B,C,v3,v4,v5,D,v7,v8,v9,T,U,V],.agg #[.int .i64 10,.int .i64 0,.int .i64 0,.int .i64 0,.slice none 0 0,.int .i64 0,.slice none 0 0],.slice (some (aD b 0)) 1 1] x (dw 135 F x T2)):=λx b r j hr hc=>by rw[<- bR,<- ET];exact uU E (hz.next j) ⟨10,0,0,0,gQ,0,gQ⟩ ⟨jS x,qE.nil _ _,λ_=>rfl,jS x,qE.nil _ _,λ_=>rfl,Qn _,QK _,QK _⟩ r b G hr A hc rfl (by decide:(2:Int)<=10) (by decide:(10:Int)<=10) (Xl _)
 have ag:Hid (∀ x,Bw w x->Cb 168 #[.agg #[v0,B,C,v3,v4,v5,D],p.order.val] x (.int .i64 K)):=λx j=>by have:=MQ q p.order x ((E.acj hz).below j).at' (Ql j Z.ok.order) Z.ok.cap;grind
 have aO:Hid (∀ x,Bw w x->Cb 68 #[.agg #[v0,B,C,v3,v4,v5,D],.int .i64 K,p.order.val] x (.bool (gL q K t.d.order))):=λx j=>by
  have:=zI q K p.order.ad p.order.cap p.order.xs x ((E.at' hz).query.below j) ⟨λh9=>E.ord (by
   cases hg:q.group with
   | false => rfl
   | true =>
    rw[<- l]at h9;unfold bg at h9;grind),by have:=E.few; omega⟩ (Ql j Z.ok.order) Z.ok.cap
  rw[xI,v]at this;rw[<- v]at this;rw[<- v];exact this
 have p3:=Z.c3;rw[bR];clear bR xI hR z ET A Z Bd v l ht hto E hz;generalize gL q K t.d.order=EB at *;generalize p.order=po at *;obtain⟨oa,oc,ox⟩:=po;simp only[ai.val]at *;obtain⟨w1,aS,X,aK⟩:=bn w #[v0,B,C,v3,v4,v5,D,v7,v8,v9,T,U,V] 68;obtain⟨a0,O,P,a3,a4,a5,Q,a7,a8,a9,ji,jE,m⟩:=aK.k13;have ah:=Zh X;have H:=cB X p3;clear X aK p3;go_enter Tryz.func154,Tryz.ntmps154;go_wp2_with fail;clear aS;refine wH w1 λg=>?_;refine wt 0 (.pointer (some (aD w.heap.size 0))) g ?_;refine wT 1 (.agg #[v0,B,C,v3,v4,v5,D]) g (λx j=>?_) ?_
 ·have e0:=LA j a0 O P a3 a4 a5 Q;go_simp
 refine wt 2 (.pointer (some (aD a 0))) g ?_;refine wt 3 (.pointer (some (aD a 0))) g ?_;refine wt 4 (.pointer (some (aD a 0))) g ?_;refine wt 5 (.pointer (some (aD a 3))) g ?_;refine l8 6 (.slice oa ox.length oc) g H ?_;refine wR 7 λK l=>?_;go_simp;refine Z5 (ag.o _ (aF ah.o g)) ?_;rintro e w2 ⟨rfl,hb⟩;refine oT l g hb λg=>?_;clear l K;refine wR 8 λK l=>?_;go_simp;refine l.o _ _ g λg=>?_;clear l K;refine wD ?_;try simp only[pU]
 have I:=Zh (aF ah.o g);have aj:=cB g H;have b0:=cB g a0;have b1:=cB g O;have b2:=cB g P;have b3:=cB g a3;have b4:=cB g a4;have b5:=cB g a5;have b6:=cB g Q;have b7:=cB g a7;have b8:=cB g a8;have b9:=cB g a9;have J:=cB g ji;have L:=cB g jE;have M:=cB g m;clear a0 O P a3 a4 a5 Q a7 a8 a9 ji jE m;obtain⟨w3,Y⟩:∃ x,w2.alloc (.cells #[.pointer (some (aD a 0))] 95)=x:=⟨_,rfl⟩;have N:Bw w2 w3:=by rw[<- Y]; exact fq _ _
 have ak:=uk.o w3 w2.heap.size (aF I.o N) (by rw[<- Y]; simp);have au:=Zh N;clear N g uk ag H;go_wp2_with fail;refine ak.mono ?_;rintro e w4 ⟨r,rfl,hT,n,s,aL⟩;have i:=aF au.o aL;have H:=cB i aj;have a0:=cB i b0;have O:=cB i b1;have P:=cB i b2;have a3:=cB i b3;have a4:=cB i b4;have a5:=cB i b5;have Q:=cB i b6;have a7:=cB i b7;have a8:=cB i b8;have a9:=cB i b9;have ji:=cB i J;have jE:=cB i L;have m:=cB i M;clear b0 b1 b2 b3 b4 b5 b6 b7 b8 b9 J L M;have nH:=Zh (aF I.o i);have HT:=Zh hT;have aP:=Zh (Q6 I.o.size (Q6 au.o.size n));have aR:=Zh s;clear hT n s i aL aj ak Y;go_wp2_with fail;refine wH w4 λg=>?_;refine wt 0 (.pointer (some (aD w.heap.size 0))) g ?_;refine wT 1 (.agg #[v0,B,C,v3,v4,v5,D]) g (λx j=>?_) ?_
 ·have e0:=LA j a0 O P a3 a4 a5 Q;go_simp
 refine wt 2 (.int .i64 K) g ?_;refine wt 3 (.pointer (some (aD a 0))) g ?_;refine wt 4 (.pointer (some (aD a 0))) g ?_;refine wt 5 (.pointer (some (aD a 0))) g ?_;refine wt 6 (.pointer (some (aD a 3))) g ?_;refine l8 7 (.slice oa ox.length oc) g H ?_;refine wR 8 λK l=>?_;go_simp;refine Z5 (aO.o _ (aF nH.o g)) ?_;rintro e w5 ⟨rfl,hb⟩;refine oT l g hb λg=>?_;clear l K;refine wD ?_;try simp only[pU]
 have jl:=Zh (aF nH.o g);have b0:=cB g a0;have b1:=cB g O;have b2:=cB g P;have b3:=cB g a3;have b4:=cB g a4;have b5:=cB g a5;have b6:=cB g Q;have b7:=cB g a7;have b8:=cB g a8;have b9:=cB g a9;have J:=cB g ji;have L:=cB g jE;have M:=cB g m;clear a0 O P a3 a4 a5 Q a7 a8 a9 ji jE m;have av:=Zh (HT.o.below g);have UT:=Zh (QH aR.o g.size)
 cases EB with
 | true =>
  clear g H;go_wp2;go_ret;have S:R=G:=aa.o;rw[S];exact⟨r,rfl,av.o,aP.o,UT.o,jl.o⟩
 | false =>
  obtain⟨w6,mE⟩:∃ x,w5.alloc (.cells #[.pointer (some (aD r 0))] 95)=x:=⟨_,rfl⟩;have y:Bw w5 w6:=by rw[<- mE]; exact fq _ _
  have ax:=aN.o w6 w5.heap.size r (aF jl.o y) (av.o.below y) (by rw[<- mE]; simp);have vo:=Zh (aF jl.o y);clear y g H;go_wp2_with fail;refine ax.mono ?_;rintro e w7 ⟨r',rfl,hT,n,s,jD⟩;have HP:Hid (dw 135 F w T2 (.returned (.pointer (some (aD r' 0)))) w7):=⟨r',rfl,hT,Q6 vo.o.size n,s,aF vo.o jD⟩;clear ax hT n s jD mE;go_wp2;go_ret;have S:R=T2:=aa.o;rw[S];exact HP.o
def Fv(F:Nat->Prop)(v:Value):Nat->Prop:=λb=>F b/\v.ownBlock≠some b
theorem Fz.own(h:Fz F W0 w)(hv:∀ g,v.ownBlock=some g->W0.heap.size<=g/\g<w.heap.size):Fz (Fv F v) W0 w:=
 ⟨h.below,λb a=>⟨h.low b a,λe=>by have:=(hv b e).1; have:=a.lt; omega⟩,λb a=>⟨h.high b a,λe=>by have:=(hv b e).2; omega⟩⟩
theorem aT.own(h:aT T F w0 a t)(hb:Bw w0 w)(hv:∀ g,v.ownBlock=some g->w0.heap.size<=g):aT T (Fv F v) w a t:=
 (h.mono (G:=Fv F v) (λb hb d=>⟨d,λe=>by have:=hv b e; omega⟩)).below hb
theorem aT.M9(h:aT T (Fv F v) w a t):aT T F w a t:=h.mono λ_ _ h=>h.1
structure dC(T Tp:TypeId)(F:Nat->Prop)(base:Nat)(w:World)(v:Value)(bs:List (Nat × aQ)):Prop where
 own:w.ownsRow base Tp 1 v bs.length ((bs.map Prod.fst).map λx=>Value.pointer (some (aD x 0)))
 tree:∀ x∈bs,aT T (Fv F v) w x.1 x.2/\base<=x.1/\x.1<w.heap.size
 rise:(bs.map Prod.fst).Pairwise (· < ·)
def lh(T Tp:TypeId)(F:Nat->Prop)(w:World)(l:List aQ)(e:Ending)(w':World):Prop:=
 ∃ v bs,e=.returned v/\bs.map Prod.snd=l/\dC T Tp F w.heap.size w' v bs/\Bw w w'
theorem dC.one{b:Nat}(hb:base<=b)(hg:GB w b Tp #[.pointer (some (aD a 0))])(ht:aT T F w0 a t)(hw:Bw w0 w)(h0:w0.heap.size<=b)(ha:base<=a)(hl:a<w.heap.size):dC T Tp F base w (.slice (some (aD b 0)) 1 1) [(a,t)]:=
 ⟨⟨rfl,.inr ⟨b,1,#[.pointer (some (aD a 0))],rfl,hb,hg,Qn _,by unfold maxLen; omega,rfl,rfl⟩⟩,λx d=>by rw[Zy]at d; rw[d]; exact⟨ht.own hw (λg e=>by cases e; exact h0),ha,hl⟩,List.pairwise_singleton _ _⟩
theorem dC.nil(T Tp:TypeId)(F:Nat->Prop)(base:Nat)(w:World):dC T Tp F base w (.slice none 0 0) []:=⟨Zu _ _ _ _,(λx a=>by cases a),List.Pairwise.nil⟩
theorem dC.below{T Tp:TypeId}{F:Nat->Prop}{base:Nat}{w w':World}{v:Value}{bs:List (Nat × aQ)}(h:dC T Tp F base w v bs)(hb:Bw w w'):dC T Tp F base w' v bs:=
 ⟨Zi h.own (Q7 (s:=λb=>b<w.heap.size) hb (λb _ h=>h)) (λg d=>(Zj h.own d).2),λx a=>⟨(h.tree x a).1.below hb,(h.tree x a).2.1,QH (h.tree x a).2.2 hb.size⟩,h.rise⟩
theorem aT.pushed(h:aT T (Fv F v) w a t)(hk:Kept (λb=>v.ownBlock≠some b) w w')(hat:v'.ownBlock=v.ownBlock∨∃ g,v'.ownBlock=some g/\w.heap.size<=g):aT T (Fv F v') w' a t:=by
 have i:=h.mono (G:=λb=>Fv F v b/\Fv F v' b) (λb f d=>⟨d,d.1,λe=>by
  rcases hat with h | ⟨g,h,j⟩
  ·exact d.2 (h ▸ e)
  grind⟩)
 exact(i.bI (hk.mono λb _ f=>f.1.2)).mono λ_ _ h=>h.2
theorem dC.push(h:dC T Tp F base w0 v bs)(hb:Bw w0 w)(ht:aT T (Fv F v) w a t)(ha:w0.heap.size<=a)(hl:a<w.heap.size)(hbase:base<=w0.heap.size)
  (ho:w'.ownsRow base Tp 1 v' (bs.map Prod.fst++[a]).length ((bs.map Prod.fst++[a]).map λx=>Value.pointer (some (aD x 0)))) (hk:Kept (λb=>v.ownBlock≠some b) w w') (hat:v'.ownBlock=v.ownBlock∨∃ g,v'.ownBlock=some g/\w.heap.size<=g):dC T Tp F base w' v' (bs++[(a,t)]):=by
 refine⟨?_,λx d=>?_,?_⟩
 ·grind
 ·rcases ZK.1 d with d | d
  ·have:=h.tree x d;exact⟨(this.1.below hb).pushed hk hat,this.2.1,QH this.2.2 (Q6 hb.size hk.size)⟩
  ·rw[Zy]at d;rw[d];exact⟨ht.pushed hk hat,Q6 hbase ha,QH hl hk.size⟩
 ·rw[Qi,List.pairwise_append];refine⟨h.rise,List.pairwise_singleton _ _,λx d y hy=>?_⟩;obtain⟨z,hz,rfl⟩:=QZ.1 d;rw[List.map_singleton,Zy]at hy;rw[hy];exact QH (h.tree z hz).2.2 ha
theorem dC.len(h:dC T Tp F base w v bs):(bs.map Prod.fst).length=bs.length:=QQ _
theorem zX(a:Nat)(t:aQ)(ht:aT 135 F w a t)(bo:Option Addr)(bc:Nat)(bs:List (Nat × aQ))(hp:ed w bo (bs.map Prod.fst))(hbs:∀ x∈bs,aT 135 F w x.1 x.2)(hl:bs.length<=1000) :
  Calls Tryz.prog 131 #[.pointer (some (aD a 0)),.slice bo bs.length bc] w λe w'=>∃ r,e=.returned (.pointer (some (aD r 0)))/\aT 135 F w' r (dV t (bs.map Prod.snd))/\Bw w w':=by
 have X:=Zh hp;have O:Hid ((bs.map Prod.fst).length=bs.length):=QQ _;have n:Hid (∀ k,k<bs.length->dV t ((bs.map Prod.snd).take (k+1))=jy (dV t ((bs.map Prod.snd).take k)) ((bs.map Prod.snd).getD k pK)):=λk L=>by rw[Xq _ pK (by rw[QQ]; exact L)];unfold dV;rw[ZP];rfl
 have P:Hid (∀ k,k<bs.length->aT 135 F w ((bs.map Prod.fst).getD k 0) ((bs.map Prod.snd).getD k pK)):=λk L=>by grind
 have Q:Hid (dV t ((bs.map Prod.snd).take bs.length)=dV t (bs.map Prod.snd)):=by show _=_; rw[ZT (by simp)]
 have q:Hid (aT 135 F w a (dV t ((bs.map Prod.snd).take 0))):=ht;clear hp hbs ht;generalize bs.map Prod.fst=bf at *;generalize dV t (bs.map Prod.snd)=R at *;obtain⟨f,g⟩:∃ C:Nat->aQ,C=λk=>dV t ((bs.map Prod.snd).take k):=⟨_,rfl⟩;obtain⟨u,K⟩:∃ C:Nat->aQ,C=λk=>(bs.map Prod.snd).getD k pK:=⟨_,rfl⟩;have Y:Hid (∀ k,k<bs.length->f (k+1)=jy (f k) (u k)):=by rw[g,K]; exact n.o
 have s:Hid (∀ k,k<bs.length->aT 135 F w (bf.getD k 0) (u k)):=by rw[K]; exact P.o
 have G:Hid (f bs.length=R):=by rw[g]; exact Q.o
 have H:Hid (aT 135 F w a (f 0)):=by rw[g]; exact q.o
 clear g K n P Q q;generalize bs.length=bl at *;clear bs;go_enter Tryz.func131,Tryz.ntmps131;go_wp2;go_loopw [5,11] (λpv iv wr=>∃ k r:Nat,k<=bl/\iv=.int .i64 (k:Int)/\pv=.pointer (some (aD r 0))/\Hid (aT 135 F w r (f k))/\Hid (Bw w wr)) (λ_ iv _=>bl-(intOf iv).toNat)
 case atStart=>exact⟨0,a,QK _,rfl,rfl,H.o,Qm _ _⟩
 case round=>
  obtain⟨k,r,L,rfl,rfl,B,l⟩:=hrel;by_cases b:k<bl
  ·obtain⟨bb,RG,rfl,v⟩:=ed.get (X.o.below l.o) (i:=k) (by rw[O.o]; exact b);have I:=v k (by rw[O.o]; exact b);obtain⟨p,V,W⟩:=B.o.mg;obtain⟨D,m,y⟩:=(s.o k b).mg;obtain⟨x,M⟩:=eY (bf.getD k 0)
   rw[<- M]at I m;have Z:Hid (aT 135 F w x (u k)):=by rw[M]; exact s.o k b
   have c1:=cB l.o V.c5;have c2:=cB l.o m.c5;have S:=Y.o k b;have T:p.cost=(f k).d.cost:=congrArg bK.cost W;have U:D.cost=(u k).d.cost:=congrArg bK.cost y;have A:Hid (f (k+1)=if D.cost<p.cost then u k else f k):=by show _=_; rw[S,T,U]; rfl
   generalize p.cost=cr at *;generalize D.cost=cx at *;clear v M V m W y S T U p D;obtain⟨wq,N⟩:∃ x,x=wr:=⟨_,rfl⟩;subst N;go_wp2_with fail;refine Qq (by kernel_rfl) (by kernel_rfl) ?_;refine qS (.pointer (some (aD x 0))) ?_;refine qS (.pointer (some (aD x 0))) ?_;refine qS (.pointer (some (aD x 0))) ?_;refine qS (.pointer (some (aD x 5))) ?_;refine qC (.int .u64 (cx:Int)) c2 ?_;refine qS (.pointer (some (aD r 0))) ?_;refine qS (.pointer (some (aD r 0))) ?_;refine qS (.pointer (some (aD r 0))) ?_;refine qS (.pointer (some (aD r 5))) ?_;refine qC (.int .u64 (cr:Int)) c1 ?_;refine qS (.bool (decide ((cx:Int)<(cr:Int)))) ?_;refine Z8 ?_;intro w2 z;have aa:=Zh (l.o.trans (z.mono l.o.size));clear z;by_cases E:cx<cr
   ·have j:decide ((cx:Int)<(cr:Int))=true:=Qv (by omega);have HN:Hid (aT 135 F w x (f (k+1))):=by rw[A.o,Qo E]; exact Z.o
    rw[j];clear E A;go_wp2;go_roundw
    case rel=>grind
    case measure=>simp[intOf]; omega
   ·have j:decide ((cx:Int)<(cr:Int))=false:=ZW (by omega);have HN:Hid (aT 135 F w r (f (k+1))):=by rw[A.o,Qu E]; exact B.o
    rw[j];clear E A;go_wp2;go_roundw
    case rel=>grind
    case measure=>simp[intOf]; omega
  ·have J:bl=k:=by omega
   subst J;rw[G.o]at B;go_wp2;go_ret;exact⟨r,rfl,B.o.below l.o,l.o⟩
theorem Na(E:Env f ts q W0)(hz:Fz F W0 w)(a:Nat)(t:aQ)(ht:aT 135 F w a t)(hto:kN q t) :
  Calls Tryz.prog 132 #[.agg (f.cells ts q),.pointer (some (aD a 0))] w (lh 135 95 F w (df ts q t)):=by
 obtain⟨v0,V,W,v3,v4,v5,X,v7,v8,v9,y,z,A,bR,aA,aB,aH,l,aI,aJ,aK,-⟩:=Z6 f ts q;have xI:q.cells=#[v0,V,W,v3,v4,v5,X]:=by rw[aA,aB,aH,l,aI,aJ,aK]; rfl
 clear aA aB aH l aI aJ aK;have BG:Hid (∀ (G:Nat->Prop) x r u,Fz G W0 x->aT 135 G x r u->kN q u->Calls Tryz.prog 154 #[.agg #[v0,V,W,v3,v4,v5,X,v7,v8,v9,y,z,A],.pointer (some (aD r 0))] x (dw 135 G x (fG ts q u))):=λG x r u j hr hu=>by rw[<- bR];exact X5 E j r u hr hu
 have ag:Hid (∀ (G:Nat->Prop) x,Fz G W0 x->Calls Tryz.prog 82 #[.agg #[v0,V,W,v3,v4,v5,X]] x (EH G x (aG q))):=λG x j=>by rw[<- xI];exact zS E j
 have uj:Hid (∀ (G:Nat->Prop) x (o:ai),Fz G W0 x->aT 135 G x a t->o.xs=aG q->IntsIn G x o->Calls Tryz.prog 155 #[.agg #[v0,V,W,v3,v4,v5,X,v7,v8,v9,y,z,A],.pointer (some (aD a 0)),o.val] x (dw 135 G x (bD ts q t (aG q)))):=λG x o j ht I hi=>by rw[<- bR,<- I];exact EJ E j a t ht hto o hi.at' hi.inf hi.nil hi.cap (by rw[I]; have:=E.aci; omega)
 have aP:=Zh hto;have MX:Hid (kN q (bD ts q t (aG q))):=yl _ hto;have lY:Hid (df ts q t=if 0<(aG q).length then [fG ts q t,fG ts q (bD ts q t (aG q))] else [fG ts q t]):=rfl;have R8:=Zh ht;have HZ:=Zh hz;rw[bR];clear bR xI ht hto E hz;generalize df ts q t=R at *;obtain⟨T1,Y⟩:∃ u,fG ts q t=u:=⟨_,rfl⟩;obtain⟨T2,ET⟩:∃ u,bD ts q t (aG q)=u:=⟨_,rfl⟩;obtain⟨T3,EU⟩:∃ u,fG ts q T2=u:=⟨_,rfl⟩;rw[Y,ET,EU]at lY;rw[ET]at uj MX;generalize aG q=EO at *;obtain⟨w1,aY,D,Z⟩:=bn w #[v0,V,W,v3,v4,v5,X,v7,v8,v9,y,z,A] 68;obtain⟨a0,a1,a2,a3,a4,a5,a6,a7,a8,a9,ji,jE,s⟩:=Z.k13;have p:=Zh D;have M:=BG.o F w1 a t (HZ.o.next D) (R8.o.below D) aP.o;rw[Y]at M;have aR:=Zh EU;have ah:=Zh Z.lt;clear D Z Y ET EU;go_enter Tryz.func132,Tryz.ntmps132;go_wp2_with fail;refine M.mono ?_;rintro e B ⟨r,rfl,hT,aL,aM,H⟩;obtain⟨w3,aa⟩:∃ x,B.alloc (.cells #[.pointer (some (aD r 0))] 95)=x:=⟨_,rfl⟩;have C:Bw B w3:=by rw[<- aa]; exact fq _ _
 have k:=aF H C;have N:=Zh (dC.one (Q6 p.o.size H.size) (by rw[<- aa]; exact qH _ _) hT C (Qn _) (Q6 p.o.size aL) (QH aM C.size));have O:=Zh (aF p.o k);have b0:=cB k a0;have b1:=cB k a1;have b2:=cB k a2;have b3:=cB k a3;have b4:=cB k a4;have b5:=cB k a5;have b6:=cB k a6;have b7:=cB k a7;have b8:=cB k a8;have b9:=cB k a9;have aj:=cB k ji;have ak:=cB k jE;have au:=cB k s;clear a0 a1 a2 a3 a4 a5 a6 a7 a8 a9 ji jE s;have J:=Zh H.size;clear M hT aL aM H C k aY;have l:∀ g,(Value.slice (some (aD B.heap.size 0)) 1 1).ownBlock=some g->w.heap.size<=g/\g<w3.heap.size:=λg e=>Zj N.o.own e;obtain⟨G,hG⟩:=eY (Fv F (.slice (some (aD B.heap.size 0)) 1 1));have P:Hid (Fz G W0 w3):=by rw[hG]; exact(HZ.o.next O.o).own (λg e=>⟨Q6 HZ.o.below.size (l g e).1,(l g e).2⟩)
 have av:Hid (aT 135 G w3 a t):=by rw[hG]; exact R8.o.own O.o (λg e=>(l g e).1)
 have uY:=Zh hG;have d:w.heap.size≠B.heap.size:=by have:=p.o.size; have:=ah.o; have:=J.o; omega
 have ax:=ag.o G w3 P.o;clear l hG;go_wp2_with fail;refine ax.mono ?_;rintro e w4 ⟨o,rfl,I,aN,i⟩;clear ax aa;have a0:=cB i b0;have a1:=cB i b1;have a2:=cB i b2;have a3:=cB i b3;have a4:=cB i b4;have a5:=cB i b5;have a6:=cB i b6;have a7:=cB i b7;have a8:=cB i b8;have a9:=cB i b9;have ji:=cB i aj;have jE:=cB i ak;have s:=cB i au;clear b0 b1 b2 b3 b4 b5 b6 b7 b8 b9 aj ak au;have Q:=Zh (N.o.below i);have nH:=Zh (aF O.o i);have HO:=Zh I;have MO:=Zh aN;have ay:=Zh (P.o.next i);have aS:=Zh (av.o.below i);clear i aN N P av ag;by_cases hn:0<EO.length
 ·have T:Hid (R=[T1,T3]):=by show _=_; rw[lY.o,Qo hn]
  have bu:decide (0<o.xs.length)=true:=Qv (by rw[I]; exact hn);have bz:0<o.xs.length:=by rw[I]; exact hn
  obtain⟨oa,oc,ox⟩:=o;simp only[ai.val]at *;clear I hn;go_wp2_with fail;refine QC (S:=λx=>Kept (λb=>b≠B.heap.size) w4 x) (by kernel_rfl) (Q7 ((Qm w4.heap.size w4).drew) (λ_ hl _=>hl)) (λn=>?_);refine wt 0 (.slice (some (aD B.heap.size 0)) 1 1) n ?_;refine wT 1 (.agg #[v0,V,W,v3,v4,v5,X,v7,v8,v9,y,z,A]) n (λx j=>?_) ?_
  ·have e0:=Ze a0 j d;have e1:=Ze a1 j d;have e2:=Ze a2 j d;have e3:=Ze a3 j d;have e4:=Ze a4 j d;have e5:=Ze a5 j d;have e6:=Ze a6 j d;have e7:=Ze a7 j d;have e8:=Ze a8 j d;have e9:=Ze a9 j d;have aU:=Ze ji j d;have aV:=Ze jE j d;have aW:=Ze s j d;go_simp
  refine wT 2 (.agg #[v0,V,W,v3,v4,v5,X,v7,v8,v9,y,z,A]) n (λx j=>?_) ?_
  ·have e0:=Ze a0 j d;have e1:=Ze a1 j d;have e2:=Ze a2 j d;have e3:=Ze a3 j d;have e4:=Ze a4 j d;have e5:=Ze a5 j d;have e6:=Ze a6 j d;have e7:=Ze a7 j d;have e8:=Ze a8 j d;have e9:=Ze a9 j d;have aU:=Ze ji j d;have aV:=Ze jE j d;have aW:=Ze s j d;go_simp
  refine wt 3 (.pointer (some (aD a 0))) n ?_;refine wt 4 (.slice oa ox.length oc) n ?_;refine wR 5 λK m=>?_;go_simp;refine Z5 (uj.o G _ ⟨oa,oc,ox⟩ (ay.o.next ((Qm _ _).drew)) (aS.o.below ((Qm _ _).drew)) HO.o (MO.o.below ((Qm _ _).drew))) ?_;rintro e w5 ⟨r2,rfl,ET,bA,bB,aZ⟩;have hd:=(Qm w4.heap.size w4).drew;have v:=hd.trans (aZ.mono hd.size);refine m.o _ _ (Q7 v (λb L _=>L)) (λn=>?_);clear m K;refine wR 6 λK m=>?_;go_simp;refine Z5 (BG.o G _ r2 T2 (ay.o.next v) ET MX.o) ?_;rintro e w6 ⟨r3,rfl,EU,bf,bg,bq⟩;have Kt:=v.trans (bq.mono v.size);rw[aR.o]at EU;refine m.o _ _ (Q7 Kt (λb L _=>L)) (λn=>?_);clear m K;refine wR 7 λK m=>?_;go_simp;refine m.o _ _ (n.trans (Q9 _ _)) (λn=>?_);clear m K;refine wR 8 λK m=>?_;obtain⟨v',w7,rM,nK,gV,⟨xa,xm,xc,rfl⟩,aO⟩:=zQ w6 w.heap.size (.slice (some (aD B.heap.size 0)) 1 1) [r] (Q.o.below Kt).own (by simp) (Q6 nH.o.size Kt.size) r3 133;have aX:=Q6 v.size bf;have az:=dC.push Q.o Kt (uY.o ▸ EU) aX bg nH.o.size nK gV (aO.imp id (λe=>⟨_,e,by omega⟩));have U:Kept (λb=>b≠B.heap.size) w4 w7:=(Q7 Kt (λb L _=>L)).trans (gV.mono λb _ L e=>L (by injection e with e; exact e.symm));refine Xc (by rfl) _ _ _ (by rfl) (.slice (some (aD B.heap.size 0)) 1 1) (.slice (some (aD w6.heap.size 0)) 1 1) (.slice xa xm xc) w7 (by rfl) (by rfl) rM ?_;refine m.o _ _ U λn=>?_;clear m K;refine wR 9 λK m=>?_;go_simp;refine m.o _ _ n λn=>?_;clear m K;refine wD ?_;try simp only[pU]
  have HF:Hid (lh 135 95 F w R (.returned (.slice xa xm xc)) w7):=⟨_,[(r,T1),(r3,T3)],rfl,T.o.symm,az,nH.o.trans (U.below nH.o.size (λb L=>by have:=p.o.size; have:=J.o; omega))⟩;clear rM nK gV aO az U n;go_wp2;go_ret;exact HF.o
 ·have T:Hid (R=[T1]):=by show _=_; rw[lY.o,Qu hn]
  have h0:o.xs.length=0:=by rw[I]; omega
  obtain⟨oa,oc,ox⟩:=o;simp only[ai.val]at *;rw[h0];clear h0 I hn HO MO;go_wp2;go_ret;exact⟨_,[(r,T1)],rfl,T.o.symm,Q.o,nH.o⟩
theorem zY(g:List aj)(hk:k<g.length):dG (g.take (k+1))=kG (dG (g.take k)) (g.getD k qB):=by unfold dG;exact jM kG [] g qB hk
theorem EW(h:x∈dG (g.take k)):∃ p∈g,p.2=some x:=by
 rcases kg _ [] x h with h | ⟨p,a,e⟩
 ·cases h
 grind
theorem vw(g:List aj)(k:Nat):(dG (g.take k)).length<=g.length:=by have:=yB (g.take k) [];rw[ZZ]at this;unfold dG;simp at this;omega
theorem bM.there(h:bM T Tp F w gb A os g){p:aj}(hp:p∈g)(hx:p.2=some x) :
  decide (A x.1∈(dG (g.take k)).map λy=>A y.1)=(dG (g.take k)).any (λy=>y.1==x.1):=by
 rw[QX,Qs,List.any_eq_true,QZ];constructor
 ·rintro⟨y,hy,e⟩;obtain⟨b,a,d⟩:=EW hy;exact⟨y,hy,by rw[beq_iff_eq]; exact h.inj b a p hp y x d hx e⟩
 grind
theorem EX(h:bM 135 160 F w gb A os g)(hl:g.length<=20)(gc:Nat) :
  Calls Tryz.prog 137 #[.slice (some (aD gb 0)) g.length gc] w λe w'=>∃ v,e=.returned v/\w'.ownsRow w.heap.size 95 1 v ((dG g).map λx=>A x.1).length (((dG g).map λx=>A x.1).map λx=>Value.pointer (some (aD x 0)))/\Bw w w':=by
 have HG:=Zh h;obtain⟨d,j⟩:∃ P:Nat->List Nat,P=λk=>(dG (g.take k)).map λx=>A x.1:=⟨_,rfl⟩;have X6:Hid (∀ k,k<g.length->(g.getD k qB).2=none->d (k+1)=d k):=λk D e=>by rw[j];simp only;rw[zY g D];unfold kG;rw[e]
 have Rn:Hid (∀ k x,k<g.length->(g.getD k qB).2=some x->d (k+1)=if A x.1∈d k then d k else d k++[A x.1]):=λk x D e=>by
  have ht:=h.there (k:=k) (rW D) e;have e1:d (k+1)=(if (dG (g.take k)).any (λy=>y.1==x.1)=true then dG (g.take k) else dG (g.take k)++[x]).map λx=>A x.1:=by rw[j];simp only;rw[zY g D];unfold kG;rw[e]
  grind
 have W:Hid (∀ k,(d k).length<=20):=λk=>by rw[j]; simp only; rw[QQ]; exact Q6 (vw g k) hl
 have X:Hid (d g.length=(dG g).map λx=>A x.1):=by grind
 have Y:Hid (d 0=[]):=by rw[j]; rfl
 have R9:Hid (∀ k,∀ a∈d k,∃ c t,w.heap[a]? = some (Obj.cells c t (0,0))):=λk a V=>by rw[j]at V;obtain⟨y,hy,rfl⟩:=QZ.1 V;obtain⟨p,hp,e⟩:=EW hy;obtain⟨c,Z⟩:=(h.tree p hp y e).blk;exact⟨c,_,Z⟩
 have rH:Hid (∀ k x,k<g.length->(g.getD k qB).2=some x->∃ c t,w.heap[A x.1]? = some (Obj.cells c t (0,0))):=λk x D hx=>by obtain⟨c,Z⟩:=(h.tree _ (rW D) x hx).blk;exact⟨c,_,Z⟩
 clear h j;generalize (dG g).map (λx=>A x.1)=R at *;go_enter Tryz.func137,Tryz.ntmps137;go_wp2;go_loopw [3,8] (λpv iv wr=>∃ k:Nat,k<=g.length/\iv=.int .i64 (k:Int)/\Hid (wr.ownsRow w.heap.size 95 1 pv (d k).length ((d k).map λx=>Value.pointer (some (aD x 0))))/\Hid (Bw w wr)) (λ_ iv _=>g.length-(intOf iv).toNat)
 case atStart=>exact⟨0,QK _,rfl,by rw[Y.o]; exact Zu _ _ _ _,Qm _ _⟩
 case round=>
  obtain⟨k,D,rfl,n,H⟩:=hrel;obtain⟨I,xm,J,rfl⟩:=Zk n.o;by_cases m:k<g.length
  ·obtain⟨c0,c1⟩:=(HG.o.below H.o).cells m;have q:=Zh (X6.o k m);have r:Hid _:=λx=>Rn.o k x m
   have u:Hid _:=λx=>rH.o k x m;generalize os.getD k gQ=ov at *;obtain⟨oa,oc,ox⟩:=ov;simp only[ai.val]at c0;generalize (g.getD k qB).2=pp at *
   cases pp with
   | none =>
    have z:=Zh (q.o rfl);simp only[Kl]at c1;have f:Bw wr (wr.alloc (.cells #[.slice oa ox.length oc,.pointer none] 160)):=fq _ _;have l:Hid ((wr.alloc (.cells #[.slice oa ox.length oc,.pointer none] 160)).ownsRow w.heap.size 95 1 (.slice I xm J) (d (k+1)).length ((d (k+1)).map λx=>Value.pointer (some (aD x 0)))):=by rw[z.o];exact Zi n.o (Q7 (s:=λb=>b<wr.heap.size) f (λb _ h=>h)) (λg hg=>(Zj n.o hg).2)
    have L:=Zh (H.o.trans (f.mono H.o.size));clear q r u n f;go_wp2;go_roundw
    case rel=>grind
    case measure=>simp[intOf]; omega
   | some x =>
    simp only[Kl]at c1;obtain⟨E,O⟩:∃ x',wr.alloc (.cells #[.slice oa ox.length oc,.pointer (some (aD (A x.1) 0))] 160)=x':=⟨_,rfl⟩;have f:Bw wr E:=by rw[<- O]; exact fq _ _
    have T:=H.o.trans (f.mono H.o.size);have d1:E.cell? (aD wr.heap.size 1)=some (.pointer (some (aD (A x.1) 0))):=by rw[<- O]; simp
    have B:=Zi n.o (Q7 (s:=λb=>b<wr.heap.size) f (λb _ h=>h)) (λg hg=>(Zj n.o hg).2);have ae:=W.o k;obtain⟨ya,yc,hy,Q,-⟩:=nS B (by omega);simp only[Value.slice.injEq]at hy;obtain⟨rfl,rfl,rfl⟩:=hy;have C:∀ a,(∃ c t,w.heap[a]? = some (Obj.cells c t (0,0)))->∃ c t,E.heap[a]? = some (Obj.cells c t (0,0)):=λa ⟨c,t,e⟩=>⟨c,t,(T.block _ (Zb.1 e).1).trans e⟩;have G:=Dz I J (d k) (A x.1) E Q (C _ (u.o x rfl)) (λa V=>C _ (R9.o k a V));have U:=Zh (r.o x rfl);have l:=Zh B;have L:=Zh T;have M:=T.size;clear C Q B f T q r u n;generalize A x.1=xa' at *;by_cases K:xa'∈d k
    ·have z:=Zh (U.o.trans (Qo K));rw[Qv K]at G;have af:Hid (E.ownsRow w.heap.size 95 1 (.slice I (d k).length J) (d (k+1)).length ((d (k+1)).map λx=>Value.pointer (some (aD x 0)))):=by rw[z.o]; exact l.o
     clear U K l z;go_wp2_with fail;refine G.mono ?_;rintro e w4 ⟨rfl,i⟩;have i:=i.symm;subst i;clear G;go_wp2;go_roundw
     case rel=>grind
     case measure=>simp[intOf]; omega
    ·have z:=Zh (U.o.trans (Qu K));rw[ZW K]at G;obtain⟨v',w5,qA,pF,S,⟨za,zm,zc,rfl⟩,aa⟩:=zQ E w.heap.size (.slice I (d k).length J) (d k) l.o (by omega) M xa' 133;have xY:Hid (w5.ownsRow w.heap.size 95 1 (.slice za zm zc) (d (k+1)).length ((d (k+1)).map λx=>Value.pointer (some (aD x 0)))):=by rw[z.o];exact pF
     have jl:=Zh (L.o.trans (S.below M (λb hb e=>by have:=(Zj l.o e).1; omega)));clear U K pF S aa z;go_wp2_with fail;refine G.mono ?_;rintro e w4 ⟨rfl,i⟩;have i:=i.symm;subst i;clear G;go_wp2_with (first | (at_builtin; refine Zt rfl (.tmp 22) (.tmp 25) 133 rfl (.slice I (d k).length J) (.slice (some (aD E.heap.size 0)) 1 1) (.slice za zm zc) w5 rfl rfl qA ?_));clear qA;go_wp2;go_roundw
     case rel=>grind
     case measure=>simp[intOf]; omega
  ·have N:g.length=k:=by omega
   have HF:Hid (wr.ownsRow w.heap.size 95 1 (.slice I xm J) R.length (R.map λx=>Value.pointer (some (aD x 0)))):=by rw[<- X.o,N];exact n.o
   clear N;go_wp2;go_ret;exact⟨_,rfl,HF.o,H.o⟩
def PtrTo(T:TypeId)(F:Nat->Prop)(w:World)(pv:Value)(o:Option aQ):Prop:=(o=none/\pv=.pointer none)∨∃ t a,o=some t/\pv=.pointer (some (aD a 0))/\aT T F w a t
theorem Ku(h:bM 135 160 F w gb A os g)(hl:g.length<=20)(gc:Nat)(bS:Int) :
  Calls Tryz.prog 161 #[.slice (some (aD gb 0)) g.length gc,.int .i64 bS] w λe w'=>∃ pv,e=.returned pv/\PtrTo 135 F w' pv (mJ g bS)/\Bw w w':=by
 have N:=EX h hl gc;obtain⟨j,t⟩:∃ P,P=dG g:=⟨_,rfl⟩;have V:Hid (∀ k,k<j.length->aT 135 F w ((j.map λx=>A x.1).getD k 0) (j.getD k (0,pK)).2):=λk T=>by
  have e1:(j.map λx=>A x.1).getD k 0=A (j[k]).1:=by grind
  have e2:j.getD k (0,pK)=j[k]:=by grind
  rw[e1,e2];have q:j[k]∈dG g:=by rw[<- t]; exact ZQ T
  rcases kg g [] _ q with h0 | ⟨p,hp,e⟩
  ·cases h0
  ·exact h.tree p hp _ e
 have W:Hid (∀ k,k<j.length->(j.take (k+1)).foldl (kQ bS) none=kQ bS ((j.take k).foldl (kQ bS) none) (j.getD k (0,pK))):=λk T=>jM _ _ j (0,pK) T;have BG:Hid ((j.take j.length).foldl (kQ bS) none=mJ g bS):=by show _=_; rw[QT,t]; rfl
 have CO:Hid (j.length<=20):=by show _<=_;rw[t];have:=vw g g.length;rw[QT]at this;omega
 have B:Hid ((j.map λx=>A x.1).length=j.length):=QQ _;rw[<- t]at N;clear h t;generalize mJ g bS=R at *;obtain⟨l,G⟩:∃ M:Nat->Option aQ,M=λk=>(j.take k).foldl (kQ bS) none:=⟨_,rfl⟩;obtain⟨z,WQ⟩:∃ M:Nat->aQ,M=λk=>(j.getD k (0,pK)).2:=⟨_,rfl⟩;have ak:Hid (∀ k,k<j.length->aT 135 F w ((j.map λx=>A x.1).getD k 0) (z k)):=by rw[WQ]; exact V.o
 have R7:Hid (∀ k,k<j.length->l (k+1)=if (au (z k).d.order [bS]&&(match l k with | none=>true | some y=>decide ((z k).d.cost<y.d.cost)))=true then some (z k) else l k):=λk T=>by have:=W.o k T;rw[G,WQ];exact this
 have av:Hid (l j.length=R):=by rw[G]; exact BG.o
 have ax:Hid (l 0=none):=by rw[G]; rfl
 clear G WQ V W BG;generalize (j.map λx=>A x.1)=xs at *;generalize j.length=pl at *;clear j;go_enter Tryz.func161,Tryz.ntmps161;go_wp2_with fail;refine N.mono ?_;rintro e w1 ⟨v1,rfl,aa,ae⟩;clear N;have az:=CO.o;obtain⟨xa,xc,rfl,af,-⟩:=nS aa (by rw[B.o]; omega);rw[B.o];have UH:=Zh af;have X:=Zh ae;clear aa af ae;go_wp2;go_loopw [5,11] (λpv iv wr=>∃ k:Nat,k<=pl/\iv=.int .i64 (k:Int)/\Hid (PtrTo 135 F w pv (l k))/\Hid (Bw w1 wr)) (λ_ iv _=>pl-(intOf iv).toNat)
 case atStart=>exact⟨0,QK _,rfl,.inl ⟨ax.o,rfl⟩,Qm _ _⟩
 case round=>
  obtain⟨k,T,rfl,H,n⟩:=hrel;have s:=X.o.trans (n.o.mono X.o.size);by_cases J:k<pl
  ·obtain⟨bb,RG,rfl,ag⟩:=ed.get (UH.o.below n.o) (i:=k) (by rw[B.o]; exact J);have m:=ag k (by rw[B.o]; exact J);have C:=ak.o k J;obtain⟨p,U,Bd⟩:=(C.below s).mg;have Ko:=R7.o k J;obtain⟨x,b⟩:=eY (xs.getD k 0)
   rw[<- b]at m U C;have HX:=Zh C;have eo:p.order.xs=(z k).d.order:=congrArg bK.order Bd;have ec:p.cost=(z k).d.cost:=congrArg bK.cost Bd;rw[<- eo,<- ec]at Ko;have u:Hid (∀ y c,Bw wr y->y.cell? (aD c 0)=some (.int .i64 bS)->Cb 107 #[.slice p.order.ad p.order.xs.length p.order.cap,.slice (some (aD c 0)) 1 1] y (.bool (au p.order.xs [bS]))):=λy c hy S=>
    kR p.order.ad (some (aD c 0)) p.order.cap 1 p.order.xs [bS] y (Ql hy U.ok.order) ⟨by simp,λi hi=>⟨c,0,rfl,by
     grind⟩⟩ U.ok.cap
   have v:wr.cell? (aD x 3)=some (.slice p.order.ad p.order.xs.length p.order.cap):=U.c3;have O:=U.c5;generalize p.order.xs.length=UN at *;generalize p.order.ad=UO at *;generalize p.order.cap=UQ at *;generalize au p.order.xs [bS]=SB at *;generalize p.cost=cx at *;have HS:=Zh Ko;have jo:=Zh s;clear ag b U Bd C eo ec Ko s p;obtain⟨wq,ay⟩:∃ x,x=wr:=⟨_,rfl⟩;subst ay
   cases SB with
   | false =>
    have D:Hid (l (k+1)=l k):=HS.o;rw[<- D.o]at H;rcases H.o with⟨-,rfl⟩ | ⟨t0,r,-,rfl,-⟩
    ·go_wp2_with fail;refine wH wq λa=>?_
     refine wT 0 (.pointer (some (aD x 0))) a (λx b=>?_) ?_
     ·go_simp
     refine wT 1 (.pointer (some (aD x 0))) a (λx b=>?_) ?_
     ·go_simp
     refine wT 2 (.pointer (some (aD x 0))) a (λx b=>?_) ?_
     ·go_simp
     refine wT 3 (.pointer (some (aD x 3))) a (λx b=>?_) ?_
     ·go_simp
     refine wT 4 (.slice UO UN UQ) a (λx b=>?_) ?_
     ·have L:=cB b v;go_simp
     refine wT 5 (.int .i64 bS) a (λx b=>?_) ?_
     ·go_simp
     refine wR 6 λK f=>?_;go_simp;refine oA f a λa=>?_;clear f K;refine wR 7 λK f=>?_;go_simp;refine Z5 (u.o _ _ a (by simp)) ?_;rintro e w2 ⟨rfl,I⟩;refine oT f a I λa=>?_;clear f K;refine wT 8 (.bool false) a (λx b=>?_) ?_
     ·go_simp
     simp only[Act.put,XC,XD,XE,QA,Qb,Qc];refine wU 9 a ?_;refine wU 10 a ?_;refine wU 11 a ?_;refine wU 12 a ?_;refine wU 13 a ?_;refine wU 14 a ?_;refine wU 15 a ?_;refine wU 16 a ?_;refine wU 17 a ?_;refine wU 18 a ?_;refine wU 19 a ?_;refine wU 20 a ?_;refine wU 21 a ?_;refine wU 22 a ?_;refine wU 23 a ?_;refine wG 24 (.bool false) a (λx b=>?_) ?_
     ·go_simp
     refine wD ?_;try simp only[Act.put,XC,XD,XE,QA,Qb,Qc]
     try simp only[Act.put,XC,XD,XE,QA,Qb,Qc]
     have E:=Zh (n.o.trans (a.mono n.o.size));clear a;clear v O m u;try clear Q
     go_wp2;go_roundw
     case rel=>grind
     case measure=>simp[intOf]; omega
    ·go_wp2_with fail;refine wH wq λa=>?_
     refine wT 0 (.pointer (some (aD x 0))) a (λx b=>?_) ?_
     ·go_simp
     refine wT 1 (.pointer (some (aD x 0))) a (λx b=>?_) ?_
     ·go_simp
     refine wT 2 (.pointer (some (aD x 0))) a (λx b=>?_) ?_
     ·go_simp
     refine wT 3 (.pointer (some (aD x 3))) a (λx b=>?_) ?_
     ·go_simp
     refine wT 4 (.slice UO UN UQ) a (λx b=>?_) ?_
     ·have L:=cB b v;go_simp
     refine wT 5 (.int .i64 bS) a (λx b=>?_) ?_
     ·go_simp
     refine wR 6 λK f=>?_;go_simp;refine oA f a λa=>?_;clear f K;refine wR 7 λK f=>?_;go_simp;refine Z5 (u.o _ _ a (by simp)) ?_;rintro e w2 ⟨rfl,I⟩;refine oT f a I λa=>?_;clear f K;refine wT 8 (.bool false) a (λx b=>?_) ?_
     ·go_simp
     simp only[Act.put,XC,XD,XE,QA,Qb,Qc];refine wU 9 a ?_;refine wU 10 a ?_;refine wU 11 a ?_;refine wU 12 a ?_;refine wU 13 a ?_;refine wU 14 a ?_;refine wU 15 a ?_;refine wU 16 a ?_;refine wU 17 a ?_;refine wU 18 a ?_;refine wU 19 a ?_;refine wU 20 a ?_;refine wU 21 a ?_;refine wU 22 a ?_;refine wU 23 a ?_;refine wG 24 (.bool false) a (λx b=>?_) ?_
     ·go_simp
     refine wD ?_;try simp only[Act.put,XC,XD,XE,QA,Qb,Qc]
     try simp only[Act.put,XC,XD,XE,QA,Qb,Qc]
     have E:=Zh (n.o.trans (a.mono n.o.size));clear a;clear v O m u;try clear Q
     go_wp2;go_roundw
     case rel=>grind
     case measure=>simp[intOf]; omega
   | true =>
    rcases H.o with⟨q,rfl⟩ | ⟨t0,r,q,rfl,hr⟩
    ·have D:Hid (l (k+1)=some (z k)):=by grind
     have Y:Hid (PtrTo 135 F w (.pointer (some (aD x 0))) (l (k+1))):=.inr ⟨z k,x,D.o,rfl,HX.o⟩;clear q HS D H;go_wp2_with fail;refine wH wq λa=>?_;refine wT 0 (.pointer (some (aD x 0))) a (λx b=>?_) ?_
     ·go_simp
     refine wT 1 (.pointer (some (aD x 0))) a (λx b=>?_) ?_
     ·go_simp
     refine wT 2 (.pointer (some (aD x 0))) a (λx b=>?_) ?_
     ·go_simp
     refine wT 3 (.pointer (some (aD x 3))) a (λx b=>?_) ?_
     ·go_simp
     refine wT 4 (.slice UO UN UQ) a (λx b=>?_) ?_
     ·have L:=cB b v;go_simp
     refine wT 5 (.int .i64 bS) a (λx b=>?_) ?_
     ·go_simp
     refine wR 6 λK f=>?_;go_simp;refine oA f a λa=>?_;clear f K;refine wR 7 λK f=>?_;go_simp;refine Z5 (u.o _ _ a (by simp)) ?_;rintro e w2 ⟨rfl,I⟩;refine oT f a I λa=>?_;clear f K;refine wT 8 (.bool true) a (λx b=>?_) ?_
     ·go_simp
     simp only[Act.put,XC,XD,XE,QA,Qb,Qc];refine wG 9 (.pointer none) a (λx b=>?_) ?_
     ·go_simp
     refine wG 10 (.bool true) a (λx b=>?_) ?_
     ·go_simp
     refine wG 11 (.bool true) a (λx b=>?_) ?_
     ·go_simp
     simp only[Act.put,XC,XD,XE,QA,Qb,Qc];refine wU 12 a ?_;refine wU 13 a ?_;refine wU 14 a ?_;refine wU 15 a ?_;refine wU 16 a ?_;refine wU 17 a ?_;refine wU 18 a ?_;refine wU 19 a ?_;refine wU 20 a ?_;refine wU 21 a ?_;refine wU 22 a ?_;refine wG 23 (.bool true) a (λx b=>?_) ?_
     ·go_simp
     refine wG 24 (.bool true) a (λx b=>?_) ?_
     ·go_simp
     refine wD ?_;try simp only[Act.put,XC,XD,XE,QA,Qb,Qc]
     try simp only[Act.put,XC,XD,XE,QA,Qb,Qc]
     have E:=Zh (n.o.trans (a.mono n.o.size));clear a;clear v O m u;try clear Q
     go_wp2;go_roundw
     case rel=>grind
     case measure=>simp[intOf]; omega
    ·obtain⟨pr,Nb,ah⟩:=(hr.below jo.o).mg;have er:pr.cost=t0.d.cost:=congrArg bK.cost ah;have D:Hid (l (k+1)=if cx<pr.cost then some (z k) else l k):=by grind
     have Q:=Nb.c5;generalize pr.cost=cr at *;clear Nb ah er q HS hr pr;by_cases S:cx<cr
     ·have HC:=Zh S;have Y:Hid (PtrTo 135 F w (.pointer (some (aD x 0))) (l (k+1))):=.inr ⟨z k,x,by rw[D.o,Qo S],rfl,HX.o⟩;clear S D H;go_wp2_with fail;refine wH wq λa=>?_
      refine wT 0 (.pointer (some (aD x 0))) a (λx b=>?_) ?_
      ·go_simp
      refine wT 1 (.pointer (some (aD x 0))) a (λx b=>?_) ?_
      ·go_simp
      refine wT 2 (.pointer (some (aD x 0))) a (λx b=>?_) ?_
      ·go_simp
      refine wT 3 (.pointer (some (aD x 3))) a (λx b=>?_) ?_
      ·go_simp
      refine wT 4 (.slice UO UN UQ) a (λx b=>?_) ?_
      ·have L:=cB b v;go_simp
      refine wT 5 (.int .i64 bS) a (λx b=>?_) ?_
      ·go_simp
      refine wR 6 λK f=>?_;go_simp;refine oA f a λa=>?_;clear f K;refine wR 7 λK f=>?_;go_simp;refine Z5 (u.o _ _ a (by simp)) ?_;rintro e w2 ⟨rfl,I⟩;refine oT f a I λa=>?_;clear f K;refine wT 8 (.bool true) a (λx b=>?_) ?_
      ·go_simp
      simp only[Act.put,XC,XD,XE,QA,Qb,Qc];refine wG 9 (.pointer (some (aD r 0))) a (λx b=>?_) ?_
      ·go_simp
      refine wG 10 (.bool false) a (λx b=>?_) ?_
      ·go_simp
      refine wG 11 (.bool false) a (λx b=>?_) ?_
      ·go_simp
      simp only[Act.put,XC,XD,XE,QA,Qb,Qc];refine wG 12 (.pointer (some (aD x 0))) a (λx b=>?_) ?_
      ·go_simp
      refine wG 13 (.pointer (some (aD x 0))) a (λx b=>?_) ?_
      ·go_simp
      refine wG 14 (.pointer (some (aD x 0))) a (λx b=>?_) ?_
      ·go_simp
      refine wG 15 (.pointer (some (aD x 5))) a (λx b=>?_) ?_
      ·go_simp
      refine wG 16 (.int .u64 (cx:Int)) a (λx b=>?_) ?_
      ·have L:=cB b O;go_simp
      refine wG 17 (.pointer (some (aD r 0))) a (λx b=>?_) ?_
      ·go_simp
      refine wG 18 (.pointer (some (aD r 0))) a (λx b=>?_) ?_
      ·go_simp
      refine wG 19 (.pointer (some (aD r 0))) a (λx b=>?_) ?_
      ·go_simp
      refine wG 20 (.pointer (some (aD r 5))) a (λx b=>?_) ?_
      ·go_simp
      refine wG 21 (.int .u64 (cr:Int)) a (λx b=>?_) ?_
      ·have L:=cB b Q;go_simp
      refine wG 22 (.bool true) a (λx b=>?_) ?_
      ·go_simp;exact HC.o
      refine wG 23 (.bool true) a (λx b=>?_) ?_
      ·go_simp
      refine wG 24 (.bool true) a (λx b=>?_) ?_
      ·go_simp
      refine wD ?_;try simp only[Act.put,XC,XD,XE,QA,Qb,Qc]
      try simp only[Act.put,XC,XD,XE,QA,Qb,Qc]
      have E:=Zh (n.o.trans (a.mono n.o.size));clear a;clear v O m u;try clear Q
      go_wp2;go_roundw
      case rel=>grind
      case measure=>simp[intOf]; omega
     ·have HC:=Zh (Nat.le_of_not_lt S);have Y:Hid (PtrTo 135 F w (.pointer (some (aD r 0))) (l (k+1))):=by show PtrTo _ _ _ _ _;rw[D.o,Qu S];exact H.o
      clear S D H;go_wp2_with fail;refine wH wq λa=>?_;refine wT 0 (.pointer (some (aD x 0))) a (λx b=>?_) ?_
      ·go_simp
      refine wT 1 (.pointer (some (aD x 0))) a (λx b=>?_) ?_
      ·go_simp
      refine wT 2 (.pointer (some (aD x 0))) a (λx b=>?_) ?_
      ·go_simp
      refine wT 3 (.pointer (some (aD x 3))) a (λx b=>?_) ?_
      ·go_simp
      refine wT 4 (.slice UO UN UQ) a (λx b=>?_) ?_
      ·have L:=cB b v;go_simp
      refine wT 5 (.int .i64 bS) a (λx b=>?_) ?_
      ·go_simp
      refine wR 6 λK f=>?_;go_simp;refine oA f a λa=>?_;clear f K;refine wR 7 λK f=>?_;go_simp;refine Z5 (u.o _ _ a (by simp)) ?_;rintro e w2 ⟨rfl,I⟩;refine oT f a I λa=>?_;clear f K;refine wT 8 (.bool true) a (λx b=>?_) ?_
      ·go_simp
      simp only[Act.put,XC,XD,XE,QA,Qb,Qc];refine wG 9 (.pointer (some (aD r 0))) a (λx b=>?_) ?_
      ·go_simp
      refine wG 10 (.bool false) a (λx b=>?_) ?_
      ·go_simp
      refine wG 11 (.bool false) a (λx b=>?_) ?_
      ·go_simp
      simp only[Act.put,XC,XD,XE,QA,Qb,Qc];refine wG 12 (.pointer (some (aD x 0))) a (λx b=>?_) ?_
      ·go_simp
      refine wG 13 (.pointer (some (aD x 0))) a (λx b=>?_) ?_
      ·go_simp
      refine wG 14 (.pointer (some (aD x 0))) a (λx b=>?_) ?_
      ·go_simp
      refine wG 15 (.pointer (some (aD x 5))) a (λx b=>?_) ?_
      ·go_simp
      refine wG 16 (.int .u64 (cx:Int)) a (λx b=>?_) ?_
      ·have L:=cB b O;go_simp
      refine wG 17 (.pointer (some (aD r 0))) a (λx b=>?_) ?_
      ·go_simp
      refine wG 18 (.pointer (some (aD r 0))) a (λx b=>?_) ?_
      ·go_simp
      refine wG 19 (.pointer (some (aD r 0))) a (λx b=>?_) ?_
      ·go_simp
      refine wG 20 (.pointer (some (aD r 5))) a (λx b=>?_) ?_
      ·go_simp
      refine wG 21 (.int .u64 (cr:Int)) a (λx b=>?_) ?_
      ·have L:=cB b Q;go_simp
      refine wG 22 (.bool false) a (λx b=>?_) ?_
      ·go_simp;exact HC.o
      refine wG 23 (.bool false) a (λx b=>?_) ?_
      ·go_simp
      refine wG 24 (.bool false) a (λx b=>?_) ?_
      ·go_simp
      refine wD ?_;try simp only[Act.put,XC,XD,XE,QA,Qb,Qc]
      try simp only[Act.put,XC,XD,XE,QA,Qb,Qc]
      have E:=Zh (n.o.trans (a.mono n.o.size));clear a;clear v O m u;try clear Q
      go_wp2;go_roundw
      case rel=>grind
      case measure=>simp[intOf]; omega
  ·have Z:pl=k:=by omega
   rw[<- Z,av.o]at H;have HF:=Zh s;clear Z s;rcases H.o with⟨q,rfl⟩ | ⟨t0,r,q,rfl,hr⟩
   ·have HM:=Zh q;clear q;go_wp2;go_ret;exact⟨_,rfl,.inl ⟨HM.o,rfl⟩,HF.o⟩
   ·have HM:=Zh q;have HR:=Zh hr;clear q hr;go_wp2;go_ret;exact⟨_,rfl,.inr ⟨t0,r,HM.o,rfl,HR.o.below HF.o⟩,HF.o⟩
theorem Nc(E:Env f ts q W0)(hz:Fz F W0 w)(a b:Nat)(ha:a<2 ^ q.src.xs.length)(hb:b<2 ^ q.src.xs.length) :
  Cb 160 #[.agg (f.cells ts q),.int .u64 (a:Int),.int .u64 (b:Int)] w (.int .u64 ((aR (aN ts q) a b:Nat):Int)):=by
 obtain⟨v0,r,t,v3,v4,v5,u,v,y,v9,g,i,j,Y,-⟩:=Z6 f ts q;have Z:2 ^ q.src.xs.length<=18446744073709551616:=QI (n:=2) (by omega) E.ok.small;have m:∀ s,aY (aN ts q) s<18446744073709551616:=λs=>QH (jL _ _ (aN ts q).length) (QI (n:=2) (by omega) (show (aN ts q).length<=64 by rw[ZB]; exact E.ok.oG));have aa:=pW ha hb;have z:Hid (∀ (x:World) (s:Nat),s<18446744073709551616->Bw w x->Cb 135 #[.agg #[v0,r,t,v3,v4,v5,u,v,y,v9,g,i,j],.int .u64 (s:Int)] x (.int .u64 ((aY (aN ts q) s:Nat):Int))):=λx s hs l=>by rw[<- Y];exact CQ f ts q s x E.ok ((E.at' hz).below l) hs
 have hR:aR (aN ts q) a b=aY (aN ts q) (a|||b) &&& (18446744073709551615-(aY (aN ts q) a|||aY (aN ts q) b)):=rfl;rw[hR,Y];have D:Hid (a<18446744073709551616/\b<18446744073709551616/\a|||b<18446744073709551616):=⟨by omega,by omega,by omega⟩;have h1:=m (a|||b);have W:=m a;have X:=m b;have G:Hid (∀ x,Bw w x->Cb 135 #[.agg #[v0,r,t,v3,v4,v5,u,v,y,v9,g,i,j],.int .u64 ((a|||b:Nat):Int)] x (.int .u64 ((aY (aN ts q) (a|||b):Nat):Int))):=λx l=>z.o x _ D.o.2.2 l;have Bc:Hid (∀ x,Bw w x->Cb 135 #[.agg #[v0,r,t,v3,v4,v5,u,v,y,v9,g,i,j],.int .u64 (a:Int)] x (.int .u64 ((aY (aN ts q) a:Nat):Int))):=λx l=>z.o x _ D.o.1 l;have H:Hid (∀ x,Bw w x->Cb 135 #[.agg #[v0,r,t,v3,v4,v5,u,v,y,v9,g,i,j],.int .u64 (b:Int)] x (.int .u64 ((aY (aN ts q) b:Nat):Int))):=λx l=>z.o x _ D.o.2.1 l;generalize aY (aN ts q) (a|||b)=A1 at *;generalize aY (aN ts q) a=A2 at *;generalize aY (aN ts q) b=A3 at *;have h4:A2|||A3<18446744073709551616:=pW (n:=64) W X;have ag:=u64_andNot_nat A1 (A2|||A3) h1 h4;have I:Hid (∀ (x:World) (c:Nat),x.cell? (aD c 0)=some (.int .u64 (a:Int))->x.cell? (aD c 1)=some (.int .u64 (b:Int))->Ce 91 #[.slice (some (aD c 0)) 2 2] x (.int .u64 ((a|||b:Nat):Int))):=λx c C V=>kW c a b x C V D.o.1 D.o.2.1;have J:Hid (∀ (x:World) (c:Nat),x.cell? (aD c 0)=some (.int .u64 (A2:Int))->x.cell? (aD c 1)=some (.int .u64 (A3:Int))->Ce 91 #[.slice (some (aD c 0)) 2 2] x (.int .u64 ((A2|||A3:Nat):Int))):=λx c C V=>kW c A2 A3 x C V W X;generalize a|||b=ab at *;generalize A2|||A3=A23 at *;generalize A1 &&& (18446744073709551615-A23)=RR at *;obtain⟨w1,ah,M,N⟩:=bn w #[v0,r,t,v3,v4,v5,u,v,y,v9,g,i,j] 68;obtain⟨a0,O,P,a3,a4,a5,Q,R,S,a9,T,U,B⟩:=N.k13;have p:=Zh M;go_enter Tryz.func160,Tryz.ntmps160;go_wp2_with fail;refine wH w1 λd=>?_;refine wT 0 (.agg #[v0,r,t,v3,v4,v5,u,v,y,v9,g,i,j]) d (λx l=>?_) ?_
 ·have C:=l7 l a0 O P a3 a4 a5 Q R S a9 T U B;go_simp
 refine wt 1 (.int .u64 (a:Int)) d ?_;refine wt 2 (.int .u64 (b:Int)) d ?_;refine wT 6 (.agg #[v0,r,t,v3,v4,v5,u,v,y,v9,g,i,j]) d (λx l=>?_) ?_
 ·have C:=l7 l a0 O P a3 a4 a5 Q R S a9 T U B;go_simp
 refine wt 7 (.int .u64 (a:Int)) d ?_;refine wT 9 (.agg #[v0,r,t,v3,v4,v5,u,v,y,v9,g,i,j]) d (λx l=>?_) ?_
 ·have C:=l7 l a0 O P a3 a4 a5 Q R S a9 T U B;go_simp
 refine wt 10 (.int .u64 (b:Int)) d ?_;refine wR 3 λK k=>?_;go_simp;refine oA k d λd=>?_;refine wR 4 λK k=>?_;go_simp;refine Z5 (I.o _ _ (by simp) (by simp)) ?_;rintro e w2 ⟨rfl,A⟩;have A:=A.symm;subst A;refine k.o _ _ d λd=>?_;refine wR 5 λK k=>?_;go_simp;refine Z5 (G.o _ (aF p.o d)) ?_;rintro e w3 ⟨rfl,hb⟩;refine oT k d hb λd=>?_;refine wR 8 λK k=>?_;go_simp;refine Z5 (Bc.o _ (aF p.o d)) ?_;rintro e w4 ⟨rfl,hb⟩;refine oT k d hb λd=>?_;refine wR 11 λK k=>?_;go_simp;refine Z5 (H.o _ (aF p.o d)) ?_;rintro e w5 ⟨rfl,hb⟩;refine oT k d hb λd=>?_;refine wR 12 λK k=>?_;go_simp;refine oA k d λd=>?_;refine wR 13 λK k=>?_;go_simp;refine Z5 (J.o _ _ (by simp) (by simp)) ?_;rintro e w6 ⟨rfl,L⟩;have L:=L.symm;subst L;refine k.o _ _ d λd=>?_;refine wR 14 λK k=>?_;go_simp;refine k.o _ _ d λd=>?_;refine wR 15 λK k=>?_;go_simp;refine k.o _ _ d λd=>?_;refine wD ?_;try simp only[pU]
 have HF:=Zh (aF p.o d);go_wp2;go_ret;refine⟨Qe ?_,HF.o⟩
 first | rfl | simp
