import Derived.Test.YtgemohlbjehmbaaGreatDoorF14
import Derived.Test.YtgemohlbjehmbaaGreatDoorF22
import Derived.Test.YtgemohlbjehmbaaGreatDoorF26
import Derived.Test.YtgemohlbjehmbaaGreatDoorF31
set_option linter.all false
set_option maxRecDepth 100000
set_option maxHeartbeats 16000000
namespace Go.Proofs.Zz
open Go.RowKit Go.Shelf
variable {T Tl Tp:TypeId} {F:Nat->Prop} {W0 w w':World} {lv v:Value} {bs:List (Nat × aQ)} {ts:List af} {q:ae} {l r:aQ} {g:List aj} {cl:List Int} {acc:List aQ} {key:Int} {f:aC} {gb:Nat} {ls:List jN}
theorem Yd(ts:List af)(q:ae)(l r:aQ)(g:List aj)(cl:List Int)(acc:List aQ)(key:Int):(fF ts q l r g cl acc key).length<=acc.length+2:=by unfold fF;grind
theorem yK(ts:List af)(q:ae)(l r:aQ)(g:List aj)(cl:List Int):∀ (ks:List Int) (acc:List aQ),(ks.foldl (fF ts q l r g cl) acc).length<=acc.length+2*ks.length
 | [],_ => by simp
 | k::ks,acc => by refine Q6 (yK ts q l r g cl ks _) ?_;have:=Yd ts q l r g cl acc k;simp only[QV];omega
theorem acS(s:Nat):(cZ s).length<=64:=by unfold cZ bB;grind
theorem Jb{s n:Nat}(h:s<2 ^ n)(hn:n<=64):(cZ s).length<=n:=by
 unfold cZ bB;rw[QQ];have d:∀ m,((List.range m).filter λi=>s.testBit i).length<=min m n:=by
  intro m
  induction m with
  | zero => simp
  | succ m ih =>
   rw[QM,List.filter_append,QP];by_cases a:s.testBit m=true
   ·have e:m<n:=by
     by_cases b:m<n
     ·exact b
     ·rw[QG (QH h (QI (by omega) (by omega)))]at a
      cases a
    simp[a];omega
   ·simp[a];omega
 exact Q6 (d 64) (by omega)
theorem dC.base{base base':Nat}(h:dC T Tp F base w v bs)(hb:base'<=base):dC T Tp F base' w v bs:=
 ⟨oL h.own hb,λx a=>⟨(h.tree x a).1,Q6 hb (h.tree x a).2.1,(h.tree x a).2.2⟩,h.rise⟩
theorem dC.fz{base:Nat}(h:dC T Tp F base w v bs)(hz:Fz F W0 w)(hb:W0.heap.size<=base):Fz (Fv F v) W0 w:=hz.own λg e=>⟨Q6 hb (Zj h.own e).1,(Zj h.own e).2⟩
theorem dC.mono{T Tp:TypeId}{F G:Nat->Prop}{base:Nat}{w:World}{v:Value}{bs:List (Nat × aQ)}(h:dC T Tp F base w v bs)(hs:∀ b,b<w.heap.size->F b->G b):dC T Tp G base w v bs:=
 ⟨h.own,λx a=>⟨(h.tree x a).1.mono (λb e d=>⟨hs b e d.1,d.2⟩),(h.tree x a).2⟩,h.rise⟩
theorem dC.aoR{s:Nat->Prop}{base:Nat}(h:dC T Tp F base w v bs)(hk:Kept s w w')(hF:∀ b,F b->s b)(hv:∀ g,v.ownBlock=some g->s g):dC T Tp F base w' v bs:=
 ⟨Zi h.own hk hv,λx a=>⟨(h.tree x a).1.bI (hk.mono λb _ d=>hF b d.1),(h.tree x a).2.1,QH (h.tree x a).2.2 hk.size⟩,h.rise⟩
theorem acT(h:(fP ts q (bO 4 cl key) l.d.sources r.d.sources).2.2=false):fF ts q l r g cl acc key=acc:=by unfold fF;simp only;rw[h];rfl
theorem Sg(h:(fP ts q (bO 4 cl key) l.d.sources r.d.sources).2.2=true)(hm:mJ g (fP ts q (bO 4 cl key) l.d.sources r.d.sources).2.1=none):fF ts q l r g cl acc key=acc++[ay ts q (bO 4 cl key) [l,r]]:=by unfold fF;simp only;rw[Qo h,hm]
theorem Si{m:aQ}(h:(fP ts q (bO 4 cl key) l.d.sources r.d.sources).2.2=true)(hm:mJ g (fP ts q (bO 4 cl key) l.d.sources r.d.sources).2.1=some m):fF ts q l r g cl acc key=if au l.d.order [(fP ts q (bO 4 cl key) l.d.sources r.d.sources).1]=true then acc++[ay ts q (bO 4 cl key) [l,r]]++[ay ts q (bO 5 cl key) [l,m]] else acc++[ay ts q (bO 4 cl key) [l,r]]:=by unfold fF;simp only;rw[Qo h,hm]
theorem Sj(E:Env f ts q W0)(hz:Fz F W0 w)(a:Nat)(l:aQ)(ht:aT 135 F w a l)(hlo:kN q l){A:Nat->Nat}{os:List ai}(hg:bM 135 160 F w gb A os g)(hgl:g.length<=20)(gc:Nat)(hgo:∀ p∈g,∀ x,p.2=some x->kN q x.2)(hs:(bC g).isSome=true) :
  Calls Tryz.prog 138 #[.agg (f.cells ts q),.pointer (some (aD a 0)),.slice (some (aD gb 0)) g.length gc] w (lh 135 95 F w (dX ts q (aN ts q) l g)):=by
 obtain⟨v0,v1,v2,v3,v4,v5,v6,v7,v8,v9,X,Y,Z,bR,-⟩:=Z6 f ts q;obtain⟨r,hr⟩:=Xz.1 hs;obtain⟨y,hy,gy⟩:=I6 hr;have eB:0<g.length:=by
  cases g with
  | nil => cases hs
  | cons _ _ => simp
 have aA:=hg.tree _ (rW eB) y hy;rw[gy]at aA;have cz:kN q r:=by grind
 have aP:Hid (∀ x,Bw w x->Ce 157 #[.slice (some (aD gb 0)) g.length gc] x (.pointer (some (aD (A y.1) 0)))):=λx B=>by have:=tC (hg.below B) eB gc;rw[hy]at this;exact this
 obtain⟨pl,aJ,dH⟩:=ht.mg;obtain⟨pr,Nb,gz⟩:=aA.mg;have cK:pl.sources=l.d.sources:=congrArg bK.sources dH;have cO:pr.sources=r.d.sources:=congrArg bK.sources gz;have eD:pl.order.xs=l.d.order:=congrArg bK.order dH;obtain⟨j,R5⟩:=eY (cZ (aR (aN ts q) l.d.sources r.d.sources));have aB:=sV (aN ts q) l.d.sources r.d.sources;rw[ZB]at aB;have gK:j.length<=8:=by rw[R5]; exact Q6 (Jb aB (by have:=E.eight; omega)) E.eight
 have eF:bu q.wh.length j:=by rw[R5]; exact sU aB
 have HJ:Hid (dX ts q (aN ts q) l g=j.foldl (fF ts q l r g j) [ay ts q (bO 3 j 0) [l,r]]):=by show _=_;unfold dX;simp only;rw[hr,R5];rfl
 have Bu:Hid (∀ x,Bw w x->Cb 160 #[.agg #[v0,v1,v2,v3,v4,v5,v6,v7,v8,v9,X,Y,Z],.int .u64 (pl.sources:Int),.int .u64 (pr.sources:Int)] x (.int .u64 ((aR (aN ts q) l.d.sources r.d.sources:Nat):Int))):=λx B=>by rw[<- bR,cK,cO];exact Nc E (hz.next B) _ _ hlo.src cz.src
 have Bq:Hid (∀ x,Calls Tryz.prog 96 #[.int .u64 ((aR (aN ts q) l.d.sources r.d.sources:Nat):Int)] x λe w'=>∃ v,e=.returned v/\w'.ownsRow x.heap.size 3 1 v j.length (j.map (Value.int .i64))/\Bw x w'):=λx=>by rw[R5];exact Ez _ (QH aB (Q6 (QI (n:=2) (by omega) E.eight) (by decide))) x
 have sH:Hid (∀ (G:Nat->Prop) (x:World) (b mb:Nat) (mt:aQ) (ia:Option Addr) (ic:Nat) (kind key:Int),Fz G W0 x->3<=kind->kind<=5->IntsIn G x ⟨ia,ic,j⟩->aT 135 G x a l->aT 135 G x mb mt->kN q mt->x.cell? (aD b 0)=some (.pointer (some (aD a 0)))->x.cell? (aD b 1)=some (.pointer (some (aD mb 0)))->Calls Tryz.prog 80 #[.agg #[v0,v1,v2,v3,v4,v5,v6,v7,v8,v9,X,Y,Z],.agg #[.int .i64 kind,.int .i64 0,.int .i64 0,.int .i64 0,.slice ia j.length ic,.int .i64 key,.slice none 0 0],.slice (some (aD b 0)) 2 2] x (dw 135 G x (ay ts q (bO kind j key) [l,mt]))):=λG x b mb mt ia ic kind key B h3 h5 hi iO iP iQ hc iR=>by rw[<- bR];exact ME E B ⟨kind,0,0,0,⟨ia,ic,j⟩,key,gQ⟩ ⟨hi.at',hi.inf,hi.nil,jS x,qE.nil _ _,λ_=>rfl,Qn _,by show j.length<=1000; omega,QK _⟩ a mb b l mt iO hlo iP iQ hc iR h3 h5 eF
 obtain⟨Q,aK⟩:∃ Q:Int->Int × Int × Bool,Q=λkey=>fP ts q (bO 4 j key) l.d.sources r.d.sources:=⟨_,rfl⟩;have df:Hid (∀ (x:World) (ia:Option Addr) (ic:Nat) (key:Int),Bw w x->aM x ia j->Cb 103 #[.agg #[v0,v1,v2,v3,v4,v5,v6,v7,v8,v9,X,Y,Z],.agg #[.int .i64 4,.int .i64 0,.int .i64 0,.int .i64 0,.slice ia j.length ic,.int .i64 key,.slice none 0 0],.agg #[.int .i64 pl.kind,.int .u64 (pl.sources:Int),.int .u64 (pl.clauses:Int),.slice pl.order.ad pl.order.xs.length pl.order.cap,.int .u64 (pl.size:Int),.int .u64 (pl.cost:Int)],.agg #[.int .i64 pr.kind,.int .u64 (pr.sources:Int),.int .u64 (pr.clauses:Int),.slice pr.order.ad pr.order.xs.length pr.order.cap,.int .u64 (pr.size:Int),.int .u64 (pr.cost:Int)]] x (.tuple #[.int .i64 (Q key).1,.int .i64 (Q key).2.1,.bool (Q key).2.2])):=λx ia ic key B hi=>by have:=qg f ts q ⟨4,0,0,0,⟨ia,ic,j⟩,key,gQ⟩ pl pr x E.ok ((E.at' hz).below B) hi aJ.ok.sources Nb.ok.sources;rw[<- bR,aK];simp only;rw[<- cK,<- cO];exact this
 have eG:Hid (∀ (G:Nat->Prop) (x:World) (bS:Int),bM 135 160 G x gb A os g->Calls Tryz.prog 161 #[.slice (some (aD gb 0)) g.length gc,.int .i64 bS] x λe w'=>∃ pv,e=.returned pv/\PtrTo 135 G w' pv (mJ g bS)/\Bw x w'):=λG x bS B=>Ku B hgl gc bS;have Sk:Hid (∀ (x:World) (c:Nat) (bS:Int),Bw w x->x.cell? (aD c 0)=some (.int .i64 bS)->Cb 107 #[.slice pl.order.ad pl.order.xs.length pl.order.cap,.slice (some (aD c 0)) 1 1] x (.bool (au l.d.order [bS]))):=λx c bS B hc=>by
  rw[<- eD];exact kR pl.order.ad (some (aD c 0)) pl.order.cap 1 pl.order.xs [bS] x (Ql B aJ.ok.order) ⟨by simp,λi hi=>⟨c,0,rfl,by
   grind⟩⟩ aJ.ok.cap
 have gL:Hid (∀ bS m,mJ g bS=some m->kN q m):=λbS m hm=>by
  rcases wF bS _ none m hm with h0 | ⟨n,hn⟩
  ·cases h0
  ·rcases kg g [] _ hn with h0 | ⟨p,hp,e⟩
   ·cases h0
   ·exact hgo p hp _ e
 obtain⟨S,bP⟩:∃ J:Nat->List aQ,J=λk=>(j.take k).foldl (fF ts q l r g j) [ay ts q (bO 3 j 0) [l,r]]:=⟨_,rfl⟩;have aS:Hid (∀ k,k<j.length->S (k+1)=fF ts q l r g j (S k) (j.getD k 0)):=λk hk=>by rw[bP]; exact jM _ _ j 0 hk
 have gM:Hid (∀ k,k<j.length->(Q (j.getD k 0)).2.2=false->S (k+1)=S k):=λk hk e=>by rw[aS.o k hk]; rw[aK]at e; exact acT e
 have gN:Hid (∀ k,k<j.length->(Q (j.getD k 0)).2.2=true->mJ g (Q (j.getD k 0)).2.1=none->S (k+1)=S k++[ay ts q (bO 4 j (j.getD k 0)) [l,r]]):=λk hk e em=>by rw[aS.o k hk]; rw[aK]at e em; exact Sg e em
 have gP:Hid (∀ k m,k<j.length->(Q (j.getD k 0)).2.2=true->mJ g (Q (j.getD k 0)).2.1=some m->S (k+1)=if au l.d.order [(Q (j.getD k 0)).1]=true then S k++[ay ts q (bO 4 j (j.getD k 0)) [l,r]]++[ay ts q (bO 5 j (j.getD k 0)) [l,m]] else S k++[ay ts q (bO 4 j (j.getD k 0)) [l,r]]):=λk m hk e em=>by rw[aS.o k hk]; rw[aK]at e em ⊢; exact Si e em
 have gT:Hid (∀ k,(S k).length<=20):=λk=>by rw[bP];refine Q6 (yK ts q l r g j (j.take k) _) ?_;grind
 have gU:Hid (S j.length=dX ts q (aN ts q) l g):=by grind
 have eH:Hid (S 0=[ay ts q (bO 3 j 0) [l,r]]):=by show _=_; rw[bP]; rfl
 have HZ:=hd hz;have R8:=hd ht;obtain⟨O,gB⟩:=eY (A y.1);rw[<- gB]at aP Nb aA;have eO:=hd aA;have BJ:=hd cz;have gV:=hd hg;have CO:=hd aJ;have Gu:=hd Nb;rw[bR];clear bR E hz ht hlo hg hgo hs hr hy gy aA cz aJ dH Nb gz cK cO eD R5 aB eF HJ aK bP aS gB;generalize dX ts q (aN ts q) l g=R at *;generalize aR (aN ts q) l.d.sources r.d.sources=C at *;obtain⟨T3,EU⟩:∃ t,t=ay ts q (bO 3 j 0) [l,r]:=⟨_,rfl⟩;rw[<- EU]at eH;have gW:=Zh EU;clear EU;obtain⟨dI,bQ,dJ,⟨UO,UQ,iI⟩,dK,dL⟩:=pl;obtain⟨dM,bT,dN,⟨dO,dP,iJ⟩,dQ,dR⟩:=pr;simp only at Bu df Sk;obtain⟨UN,bU⟩:∃ n,n=iI.length:=⟨_,rfl⟩;obtain⟨dS,dU⟩:∃ n,n=iJ.length:=⟨_,rfl⟩;rw[<- bU,<- dU]at df;rw[<- bU]at Sk;have dh:Hid (∀ x,Bw w x->x.cell? (aD a 0)=some (.int .i64 dI)/\x.cell? (aD a 1)=some (.int .u64 (bQ:Int))/\x.cell? (aD a 2)=some (.int .u64 (dJ:Int))/\x.cell? (aD a 3)=some (.slice UO UN UQ)/\x.cell? (aD a 4)=some (.int .u64 (dK:Int))/\x.cell? (aD a 5)=some (.int .u64 (dL:Int))):=λx B=>by rw[bU];exact⟨cB B CO.o.c0,cB B CO.o.c1,cB B CO.o.c2,cB B CO.o.c3,cB B CO.o.c4,cB B CO.o.c5⟩
 have eP:Hid (∀ x,Bw w x->x.cell? (aD O 0)=some (.int .i64 dM)/\x.cell? (aD O 1)=some (.int .u64 (bT:Int))/\x.cell? (aD O 2)=some (.int .u64 (dN:Int))/\x.cell? (aD O 3)=some (.slice dO dS dP)/\x.cell? (aD O 4)=some (.int .u64 (dQ:Int))/\x.cell? (aD O 5)=some (.int .u64 (dR:Int))):=λx B=>by rw[dU];exact⟨cB B Gu.o.c0,cB B Gu.o.c1,cB B Gu.o.c2,cB B Gu.o.c3,cB B Gu.o.c4,cB B Gu.o.c5⟩
 clear bU dU CO Gu;obtain⟨gl,Kn⟩:∃ n,n=g.length:=⟨_,rfl⟩;rw[<- Kn]at aP eG hgl ⊢;clear Kn;obtain⟨w1,iK,aL,dV⟩:=bn w #[v0,v1,v2,v3,v4,v5,v6,v7,v8,v9,X,Y,Z] 68;obtain⟨a0,a1,a2,a3,a4,a5,a6,a7,a8,a9,ji,jE,I⟩:=dV.k13;obtain⟨p0,p1,p2,p3,p4,p5⟩:=dh.o w1 aL;obtain⟨q0,q1,q2,q3,q4,q5⟩:=eP.o w1 aL;have di:=hd aL;have uk:=hd dV;have eQ:=aP.o w1 aL;clear aL dV aP;go_enter Tryz.func138,Tryz.ntmps138;go_wp2_with fail;refine eQ.mono ?_;rintro e wz ⟨rfl,iL⟩;have rA:=iL.symm;subst rA;clear eQ iK;go_wp2_with fail;refine wH w1 λu=>?_;refine wT 0 (.agg #[v0,v1,v2,v3,v4,v5,v6,v7,v8,v9,X,Y,Z]) u (λx B=>?_) ?_
 ·have e0:=l7 B a0 a1 a2 a3 a4 a5 a6 a7 a8 a9 ji jE I;go_simp
 refine wt 1 (.pointer (some (aD a 0))) u ?_;refine wt 2 (.pointer (some (aD a 0))) u ?_;refine wt 3 (.pointer (some (aD a 0))) u ?_;refine wt 4 (.pointer (some (aD a 1))) u ?_;refine l8 5 (.int .u64 (bQ:Int)) u p1 ?_;refine wt 6 (.pointer (some (aD O 0))) u ?_;refine wt 7 (.pointer (some (aD O 0))) u ?_;refine wt 8 (.pointer (some (aD O 0))) u ?_;refine wt 9 (.pointer (some (aD O 1))) u ?_;refine l8 10 (.int .u64 (bT:Int)) u q1 ?_;refine wR 11 λK hK=>?_;go_simp;refine Z5 (Bu.o _ (aF di.o u)) ?_;rintro e wy ⟨rfl,D⟩;refine oT hK u D λu=>?_;clear hK K;have eT:=u.size;refine wR 12 λK hK=>?_;go_simp;refine Z5 (Bq.o _) ?_;rintro e N ⟨v,rfl,hv,D⟩;obtain⟨ia,lm,ic,rfl⟩:=Zk hv;refine oT hK u D λu=>?_;clear hK K;refine wR 13 λK hK=>?_;go_simp;refine hK.o _ _ u λu=>?_;clear hK K;refine wD ?_;try simp only[pV]
 try simp only[pV]
 clear p0 p1 p2 p3 p4 p5 q0 q1 q2 q3 q4 q5;obtain⟨iv,qd,vE,nU,dW,dY,dZ⟩:=pG hv (by omega);obtain⟨ja,jc,ix⟩:=iv;simp only[ai.val]at qd vE nU dW dY dZ;subst vE;injection qd with hi1 hi2 hi3;subst hi1 hi2 hi3;have rC:=u;have MO:Hid (IntsIn F N ⟨ia,ic,ix⟩):=⟨nU,λ_ z e=>HZ.o.high _ (Q6 di.o.size (Q6 eT (dW z e))),dY,dZ⟩;have aU:=Zh (uk.o.keep (Q7 (s:=λb=>b<w1.heap.size) rC (λ_ h _=>h)) uk.o.lt);have H:=Zh (aF di.o rC);obtain⟨cn,ed⟩:∃ n,n=ix.length:=⟨_,rfl⟩;clear u eT hv nU dW dY dZ rC a0 a1 a2 a3 a4 a5 a6 a7 a8 a9 ji jE I;obtain⟨w3,bV⟩:∃ x,N.alloc (.cells #[.pointer (some (aD a 0)),.pointer (some (aD O 0))] 95)=x:=⟨_,rfl⟩;have aV:Bw N w3:=by rw[<- bV]; exact fq _ _
 have aW:=aF H.o aV;have aX:=sH.o F w3 N.heap.size O r ia ic 3 0 (HZ.o.next aW) (by omega) (by omega) (MO.o.below aV) (R8.o.below aW) (eO.o.below aW) BJ.o (by rw[<- bV]; simp) (by rw[<- bV]; simp);rw[<- gW.o]at aX;have ah:=aU.o;obtain⟨a0,a1,a2,a3,a4,a5,a6,a7,a8,a9,ji,jE,I⟩:=ah.k13;have dm:=hd aV;rw[<- ed]at aX gK ⊢;have J2:=hd ed;clear aV aW ah ed;go_wp2_with fail;refine aX.mono ?_;rintro e w4 ⟨r1,rfl,hT,T,U,av⟩;obtain⟨w5,vU⟩:∃ x,w4.alloc (.cells #[.pointer (some (aD r1 0))] 95)=x:=⟨_,rfl⟩;have aY:Bw w4 w5:=by rw[<- vU]; exact fq _ _
 have gX:=Zh (dC.one (Q6 dm.o.size av.size) (by rw[<- vU]; exact qH _ _) hT aY (Qn _) (Q6 dm.o.size T) (QH U aY.size));have jl:=Zh (aF dm.o (aF av aY));clear aX hT T U av aY bV a0 a1 a2 a3 a4 a5 a6 a7 a8 a9 ji jE I;go_wp2;clear vU;go_loopw [9,42] (λpv xv wr=>∃ (k:Nat) (bs:List (Nat × aQ)),k<=cn/\xv=.int .i64 (k:Int)/\Hid (bs.map Prod.snd=S k)/\Hid (dC 135 95 F N.heap.size wr pv bs)/\Hid (Bw N wr)) (λ_ xv _=>cn-(intOf xv).toNat)
 case atStart=>exact⟨0,[(r1,T3)],QK _,rfl,by show _=_; rw[eH.o]; rfl,gX.o,jl.o⟩
 case round=>
  obtain⟨k,bs,hk,rfl,DW,ax,jo⟩:=hrel;obtain⟨pa,pm,pc,rfl⟩:=Zk ax.o.own;by_cases iT:k<cn
  ·have L:k<ix.length:=by rw[<- J2.o]; exact iT
   obtain⟨kb,Ag,rfl,aI⟩:=Qf (Ql jo.o MO.o.at').2 L;have eU:=aI k L;obtain⟨key,aO⟩:=eY (ix.getD k 0);rw[<- aO]at eU;have aZ:=gM.o k L;have bf:=gN.o k L;have bg:=λm=>gP.o k m L;rw[<- aO]at aZ bf bg;have P:=aF H.o jo.o;have iV:=hd P;have hv:∀ z,(Value.slice pa pm pc).ownBlock=some z->N.heap.size<=z/\z<wr.heap.size:=λz e=>Zj ax.o.own e;have dn:=Zh hv;obtain⟨FN,gD⟩:∃ G:Nat->Prop,G=λb=>F b/\b≠wr.heap.size:=⟨_,rfl⟩;have V:Hid (∀ b,FN b↔F b/\b≠wr.heap.size):=λb=>by rw[gD]
   have UI:=Zh (ax.o.mono (λb D h=>(V.o b).2 ⟨h,by omega⟩));obtain⟨G,hG⟩:=eY (Fv FN (.slice pa pm pc));have M:Hid (W0.heap.size<=w.heap.size/\w.heap.size<=N.heap.size/\N.heap.size<=wr.heap.size):=⟨HZ.o.below.size,H.o.size,jo.o.size⟩;have eX:Hid (∀ x,Bw wr x->wr.heap.size<x.heap.size->Fz FN W0 x):=λx B hl=>by have h0:=(HZ.o.next P).next B;have:=M.o;exact⟨h0.below,λb D=>(V.o b).2 ⟨h0.low b D,by have:=D.lt; omega⟩,λb D=>(V.o b).2 ⟨h0.high b D,by omega⟩⟩
   have gY:Hid (∀ x,Bw wr x->wr.heap.size<x.heap.size->Fz G W0 x):=λx B hl=>by rw[hG];exact(eX.o x B hl).own (λg e=>by have:=hv g e; have:=M.o; omega)
   have gZ:Hid (aT 135 G wr a l):=by rw[hG]; exact(R8.o.mono (G:=FN) (λb D h=>(V.o b).2 ⟨h,by have:=M.o; omega⟩)).own P (λz e=>Q6 H.o.size (hv z e).1)
   have ib:Hid (aT 135 G wr O r):=by rw[hG]; exact(eO.o.mono (G:=FN) (λb D h=>(V.o b).2 ⟨h,by have:=M.o; omega⟩)).own P (λz e=>Q6 H.o.size (hv z e).1)
   have eZ:Hid (IntsIn G wr ⟨some (aD kb Ag),ic,ix⟩):=by rw[hG];exact(MO.o.mono (G:=Fv FN (.slice pa pm pc)) (λb D h=>⟨(V.o b).2 ⟨h,by have:=M.o; omega⟩,λe=>by have:=(hv b e).1; omega⟩)).below jo.o
   have fe:=df.o;have dx:=aU.o.keep (Q7 (s:=λb=>b<N.heap.size) jo.o (λ_ h _=>h)) aU.o.lt;have fo:=Zh aU.o.lt;have uY:=hd hG;obtain⟨wq,iM⟩:∃ x,x=wr:=⟨_,rfl⟩;subst iM;obtain⟨y1,gF,aa,bW⟩:=bn wq #[.int .i64 4,.int .i64 0,.int .i64 0,.int .i64 0,.slice (some (aD kb Ag)) cn ic,.int .i64 key,.slice none 0 0] 75;have dz:=dx.keep (Q7 (s:=λb=>b<wq.heap.size) aa (λ_ h _=>h)) dx.lt;obtain⟨a0,a1,a2,a3,a4,a5,a6,a7,a8,a9,ji,jE,I⟩:=dz.k13;obtain⟨n0,n1,n2,n3,n4,n5,n6⟩:=bW.k7;obtain⟨p0,p1,p2,p3,p4,p5⟩:=dh.o y1 (aF P aa);obtain⟨q0,q1,q2,q3,q4,q5⟩:=eP.o y1 (aF P aa);have BH:=hd aa;have fu:=hd bW;have fw:=hd dz;have fA:=hd gF;have Nt:Hid (∀ x,Bw y1 x->Cb 103 #[.agg #[v0,v1,v2,v3,v4,v5,v6,v7,v8,v9,X,Y,Z],.agg #[.int .i64 4,.int .i64 0,.int .i64 0,.int .i64 0,.slice (some (aD kb Ag)) cn ic,.int .i64 key,.slice none 0 0],.agg #[.int .i64 dI,.int .u64 (bQ:Int),.int .u64 (dJ:Int),.slice UO UN UQ,.int .u64 (dK:Int),.int .u64 (dL:Int)],.agg #[.int .i64 dM,.int .u64 (bT:Int),.int .u64 (dN:Int),.slice dO dS dP,.int .u64 (dQ:Int),.int .u64 (dR:Int)]] x (.tuple #[.int .i64 (Q key).1,.int .i64 (Q key).2.1,.bool (Q key).2.2])):=λx B=>by have:=fe x (some (aD kb Ag)) ic key (aF P (aF aa B)) (eZ.o.below (aF aa B)).at';rw[<- J2.o]at this;exact this
   have fB:=Zh bW.lt;clear aI aO L hG gD hv dx P aa bW dz gF fe;generalize (Q key).1=k1 at *;generalize (Q key).2.1=k2 at *;generalize iU:(Q key).2.2=k3 at *;clear iU;go_wp2_with fail;rw[fA.o];clear fA;refine wH y1 λu=>?_;refine wT 0 (.agg #[v0,v1,v2,v3,v4,v5,v6,v7,v8,v9,X,Y,Z]) u (λx B=>?_) ?_
   ·have e0:=l7 B a0 a1 a2 a3 a4 a5 a6 a7 a8 a9 ji jE I;go_simp
   refine wT 1 (.agg #[.int .i64 4,.int .i64 0,.int .i64 0,.int .i64 0,.slice (some (aD kb Ag)) cn ic,.int .i64 key,.slice none 0 0]) u (λx B=>?_) ?_
   ·have e0:=LA B n0 n1 n2 n3 n4 n5 n6;go_simp
   refine wt 2 (.pointer (some (aD a 0))) u ?_;refine wt 3 (.pointer (some (aD a 0))) u ?_;refine wt 4 (.pointer (some (aD a 0))) u ?_;refine wT 5 (.agg #[.int .i64 dI,.int .u64 (bQ:Int),.int .u64 (dJ:Int),.slice UO UN UQ,.int .u64 (dK:Int),.int .u64 (dL:Int)]) u (λx B=>?_) ?_
   ·have e0:=Pj B p0 p1 p2 p3 p4 p5;go_simp
   refine wt 6 (.pointer (some (aD O 0))) u ?_;refine wt 7 (.pointer (some (aD O 0))) u ?_;refine wt 8 (.pointer (some (aD O 0))) u ?_;refine wT 9 (.agg #[.int .i64 dM,.int .u64 (bT:Int),.int .u64 (dN:Int),.slice dO dS dP,.int .u64 (dQ:Int),.int .u64 (dR:Int)]) u (λx B=>?_) ?_
   ·have e0:=Pj B q0 q1 q2 q3 q4 q5;go_simp
   refine wR 10 λK hK=>?_;go_simp;refine Z5 (Nt.o _ u) ?_;rintro e y2 ⟨rfl,D⟩;refine oT hK u D λu=>?_;clear hK K;refine wt 11 (.tuple #[.int .i64 k1,.int .i64 k2,.bool k3]) u ?_;refine wt 12 (.int .i64 k1) u ?_;refine wt 13 (.int .i64 k2) u ?_;refine wt 14 (.bool k3) u ?_;refine wt 15 (.int .i64 k1) u ?_;refine wt 16 (.int .i64 k2) u ?_;refine wR 17 λK hK=>?_;go_simp;refine hK.o _ _ u λu=>?_;clear hK K;refine wD ?_;try simp only[pV]
   try simp only[pV]
   clear p0 p1 p2 p3 p4 p5 q0 q1 q2 q3 q4 q5 eU a0 a1 a2 a3 a4 a5 a6 a7 a8 a9 ji jE I n0 n1 n2 n3 n4 n5 n6;have zJ:=hd u;clear u
   cases k3 with
   | false =>
    have pQ:=Zh (aZ rfl);have HF:Hid (dC 135 95 F N.heap.size y2 (.slice pa pm pc) bs/\Bw N y2):=⟨(ax.o.below BH.o).below zJ.o,aF jo.o (aF BH.o zJ.o)⟩;clear aZ bf bg;go_wp2;go_roundw
    case rel=>exact⟨k+1,bs,by omega,by go_num,DW.o.trans pQ.o.symm,HF.o.1,HF.o.2⟩
    case measure=>simp[intOf]; omega
   | true =>
    have bq:=Zh (bf rfl);have bz:Hid _:=λm=>bg m rfl;clear aZ bf bg;have dA:=fu.o.keep (Q7 (s:=λb=>b<y1.heap.size) zJ.o (λ_ h _=>h)) fu.o.lt;have ah:=fw.o.keep (Q7 (s:=λb=>b<y1.heap.size) zJ.o (λ_ h _=>h)) fw.o.lt;obtain⟨a0,a1,a2,a3,a4,a5,a6,a7,a8,a9,ji,jE,I⟩:=ah.k13;obtain⟨n0,n1,n2,n3,n4,n5,n6⟩:=dA.k7;obtain⟨y3,bX⟩:∃ x,y2.alloc (.cells #[.pointer (some (aD a 0)),.pointer (some (aD O 0))] 95)=x:=⟨_,rfl⟩;have bA:Bw y2 y3:=by rw[<- bX]; exact fq _ _
    have bB:=Zh (aF BH.o (aF zJ.o bA));have bD:=sH.o G y3 y2.heap.size O r (some (aD kb Ag)) ic 4 key (gY.o y3 bB.o (QH fB.o (Q6 zJ.o.size bA.size))) (by omega) (by omega) (eZ.o.below bB.o) (gZ.o.below bB.o) (ib.o.below bB.o) BJ.o (by rw[<- bX]; simp) (by rw[<- bX]; simp);rw[<- J2.o]at bD;obtain⟨T4,gG⟩:∃ t,t=ay ts q (bO 4 ix key) [l,r]:=⟨_,rfl⟩;rw[<- gG]at bD bq bz;have LB:=hd dA;have ig:=hd ah;have fC:=hd bA;clear dA ah bA gG;go_wp2_with fail;refine bD.mono ?_;rintro e y4 ⟨r4,rfl,hT,T,U,av⟩;have bE:=Zh (aF fC.o av);have aG:=Zh (aF BH.o (aF zJ.o bE.o));have W:(bs.map Prod.fst).length=bs.length:=QQ _;have dB:bs.length<=20:=by have h1:=congrArg List.length DW.o; rw[QQ]at h1; rw[h1]; exact gT.o k
    obtain⟨v5,y5,qA,pF,bY,⟨za,zm,zc,rfl⟩,vF⟩:=zQ y4 N.heap.size (.slice pa pm pc) (bs.map Prod.fst) (by rw[W]; exact(ax.o.below aG.o).own) (by rw[W]; omega) (Q6 jo.o.size aG.o.size) r4 133;have fD:(Value.slice za zm zc).ownBlock=(Value.slice pa pm pc).ownBlock∨∃ z,(Value.slice za zm zc).ownBlock=some z/\y4.heap.size<=z:=by
     rcases vF with h | h
     ·exact .inl h
     ·exact .inr ⟨_,h,by omega⟩
    have Ye:=Zh ((UI.o.below BH.o).push (aF zJ.o bE.o) (by rw[uY.o]at hT; exact hT) (Q6 zJ.o.size (Q6 fC.o.size T)) U (Q6 jo.o.size BH.o.size) pF bY fD);have dD:=(Q7 bE.o (λ_ h _=>h)).trans bY;have Nu:=Zh ((aF jo.o aG.o).trans (bY.below (Q6 jo.o.size aG.o.size) (λb D e=>by have:=(dn.o b e).1; omega)));have Px:=ig.o.keep dD (λe=>by have:=(dn.o _ e).1; have:=fo.o; omega);have dE:=LB.o.keep dD (λe=>by have:=(dn.o _ e).2; omega);have fE:=hd Px;have Yf:=hd dE;obtain⟨G5,az⟩:∃ G,G=Fv FN (.slice za zm zc):=⟨_,rfl⟩;have fG:=Zh az;have bF:∀ z,(Value.slice za zm zc).ownBlock=some z->N.heap.size<=z/\z<y5.heap.size:=λz e=>Zj Ye.o.own e;have Yg:=aF H.o Nu.o;have ik:Hid (bM 135 160 G5 y5 gb A os g):=by rw[az]; exact(gV.o.mono (G:=Fv FN (.slice za zm zc)) (λb D h=>⟨(V.o b).2 ⟨h,by have:=M.o; omega⟩,λe=>by have:=(bF b e).1; have:=H.o.size; omega⟩)).below Yg
    have fH:=Zh dE.lt;have il:Hid (Fz FN W0 y5):=⟨(HZ.o.next Yg).below,(eX.o y4 aG.o (QH fB.o (Q6 zJ.o.size bE.o.size))).low,λb D=>(V.o b).2 ⟨(HZ.o.next Yg).high b D,by have:=fH.o; omega⟩⟩;have iq:Hid (Fz G5 W0 y5):=by rw[az]; exact Ye.o.fz il.o (Q6 HZ.o.below.size H.o.size)
    have iw:Hid (aT 135 G5 y5 a l):=by rw[az]; exact(R8.o.mono (G:=FN) (λb D h=>(V.o b).2 ⟨h,by have:=M.o; omega⟩)).own Yg (λz e=>Q6 H.o.size (bF z e).1)
    have iy:Hid (IntsIn G5 y5 ⟨some (aD kb Ag),ic,ix⟩):=by rw[az];exact(MO.o.mono (G:=Fv FN (.slice za zm zc)) (λb D h=>⟨(V.o b).2 ⟨h,by have:=M.o; omega⟩,λe=>by have:=(bF b e).1; omega⟩)).below Nu.o
    have fI:=hd Yg;have bG:Hid ((bs++[(r4,T4)]).length<=21/\(bs++[(r4,T4)]).map Prod.snd=S k++[T4]):=⟨by simp; omega,by rw[Qi,DW.o]; rfl⟩;have fJ:=eG.o G5 y5 k2 ik.o;clear bD hT T U av W dB pF bY vF fD dD az bF Yg Px dE bX;generalize bs++[(r4,T4)]=bs5 at *;go_wp2_with (first | (at_builtin; refine Zt rfl (.tmp 66) (.tmp 73) 133 rfl (.slice pa pm pc) (.slice (some (aD y4.heap.size 0)) 1 1) (.slice za zm zc) y5 rfl rfl qA ?_));clear qA a0 a1 a2 a3 a4 a5 a6 a7 a8 a9 ji jE I n0 n1 n2 n3 n4 n5 n6;go_wp2_with fail;refine fJ.mono ?_;rintro e y6 ⟨mv,rfl,iN,ag⟩;have iA:=Zh ((Ye.o.below ag).mono (λb _ h=>((V.o b).1 h).1));have iB:=Zh (aF Nu.o ag);clear fJ;rcases iN with⟨hm0,rfl⟩ | ⟨m,mb,hm0,rfl,hmT⟩
    ·have pQ:=Zh (bq.o hm0);clear hm0 ag bq bz;go_wp2;go_roundw
     case rel=>exact⟨k+1,bs5,by omega,by go_num,bG.o.2.trans pQ.o.symm,iA.o,iB.o⟩
     case measure=>simp[intOf]; omega
    ·have bH:=bz.o m hm0;have iC:=Zh (gL.o _ m hm0);have iD:=hd hmT;obtain⟨p0,p1,p2,p3,p4,p5⟩:=dh.o y6 (aF fI.o ag);clear p0 p1 p2 p4 p5;obtain⟨y7,ek⟩:∃ x,y6.alloc (.cells #[.int .i64 k1] 3)=x:=⟨_,rfl⟩
     have bJ:Bw y6 y7:=by rw[<- ek]; exact fq _ _
     have fK:=Sk.o y7 y6.heap.size k1 (aF fI.o (aF ag bJ)) (by rw[<- ek]; simp);have iE:=Zh (aF ag bJ);have iF:=hd bJ;generalize au l.d.order [k1]=SB at *;clear hm0 ag bq bz hmT bJ;go_wp2_with fail;refine fK.mono ?_;rintro e y8 ⟨rfl,Nf⟩;have X9:=Zh (aF iE.o Nf);have iG:=Zh (aF iF.o Nf);clear fK Nf ek p3
     cases SB with
     | false =>
      have pQ:=hd bH;have HF:Hid (dC 135 95 F N.heap.size y8 (.slice za zm zc) bs5/\Bw N y8):=⟨(Ye.o.below X9.o).mono (λb _ h=>((V.o b).1 h).1),aF Nu.o X9.o⟩;clear bH;go_wp2;go_roundw
      case rel=>exact⟨k+1,bs5,by omega,by go_num,bG.o.2.trans pQ.o.symm,HF.o.1,HF.o.2⟩
      case measure=>simp[intOf]; omega
     | true =>
      obtain⟨T5,eu⟩:∃ t,t=ay ts q (bO 5 ix key) [l,m]:=⟨_,rfl⟩;have pQ:Hid (S (k+1)=S k++[T4]++[T5]):=by rw[eu]; exact bH
      have bL:=Yf.o.keep (Q7 (s:=λb=>b<y5.heap.size) X9.o (λ_ h _=>h)) Yf.o.lt;have fM:=fE.o.keep (Q7 (s:=λb=>b<y5.heap.size) X9.o (λ_ h _=>h)) fE.o.lt;have n0:=bL.at 0;have z0:=bL.frozen 0;clear bH;go_upto_region 14 with fail;obtain⟨y9,bZ⟩:∃ x,x=y8.setCell (aD wq.heap.size 0) (.int .i64 5):=⟨_,rfl⟩;rw[<- bZ];have fO:GB y9 wq.heap.size 75 #[.int .i64 5,.int .i64 0,.int .i64 0,.int .i64 0,.slice (some (aD kb Ag)) cn ic,.int .i64 key,.slice none 0 0]:=by rw[bZ]; exact bL.set 0 _
      have Nv:Kept (λb=>b≠wq.heap.size) y8 y9:=by rw[bZ]; exact Zf _ _ _ (λh=>h rfl)
      have fQ:=fM.keep Nv (by have:=fo.o; have:=jo.o.size; omega);clear bZ n0 z0 bL fM;obtain⟨a0,a1,a2,a3,a4,a5,a6,a7,a8,a9,ji,jE,I⟩:=fQ.k13;obtain⟨n0,n1,n2,n3,n4,n5,n6⟩:=fO.k7;have fT:Below wq.heap.size y8 y9:=Nv.below (by have:=X9.o.size; have:=fH.o; omega) (λb D=>by omega);have fU:=(aF Nu.o X9.o).trans (fT.mono jo.o.size);have iH:=Zh (jq Ye.o.own Yf.o (by decide));have vG:Hid (∀ b,G5 b->b≠wq.heap.size):=λb h=>by rw[fG.o]at h; exact((V.o b).1 h.1).2
      have fV:=(iq.o.next X9.o).kept' Nv (λb D=>by have:=M.o; have:=D.lt; omega);have fZ:=(iw.o.below X9.o).bI (Nv.mono (λb _ h=>vG.o b h));have gm:=(iD.o.below iG.o).bI (Nv.mono (λb _ h=>vG.o b h));have gp:=(iy.o.below X9.o).bI (Nv.mono (λb _ h=>vG.o b h));obtain⟨x1,cu⟩:∃ x,y9.alloc (.cells #[.pointer (some (aD a 0)),.pointer (some (aD mb 0))] 95)=x:=⟨_,rfl⟩;have ak:Bw y9 x1:=by rw[<- cu]; exact fq _ _
      have dF:=sH.o G5 x1 y9.heap.size mb m (some (aD kb Ag)) ic 5 key (fV.next ak) (by omega) (by omega) (gp.below ak) (fZ.below ak) (gm.below ak) iC.o (by rw[<- cu]; simp) (by rw[<- cu]; simp);rw[<- J2.o,<- eu]at dF;have gq:=hd ak;have bN:=hd fU;have dG:=Zh ((Ye.o.below X9.o).aoR Nv (λb h=>((V.o b).1 h).2) (λg e h=>iH.o (h ▸ e)));clear eu fO fQ Nv fT fU fV fZ gm gp ak;go_wp2_with fail;refine dF.mono ?_;rintro e x2 ⟨r5,rfl,hT,T,U,gH⟩;have aH:=Zh (aF gq.o gH);have W:(bs5.map Prod.fst).length=bs5.length:=QQ _;have dB:=bG.o.1;obtain⟨v6,x3,gI,Yh,uq,⟨ua,um,uc,rfl⟩,gJ⟩:=zQ x2 N.heap.size (.slice za zm zc) (bs5.map Prod.fst) (by rw[W]; exact(dG.o.below aH.o).own) (by rw[W]; omega) (Q6 bN.o.size aH.o.size) r5 133;have gu:(Value.slice ua um uc).ownBlock=(Value.slice za zm zc).ownBlock∨∃ z,(Value.slice ua um uc).ownBlock=some z/\x2.heap.size<=z:=by
       rcases gJ with h | h
       ·exact .inl h
       ·exact .inr ⟨_,h,by omega⟩
      have HF:Hid (dC 135 95 F N.heap.size x3 (.slice ua um uc) (bs5++[(r5,T5)])/\Bw N x3):=⟨(dG.o.push aH.o (by rw[fG.o]at hT; exact hT) (Q6 gq.o.size T) U bN.o.size Yh uq gu).mono (λb _ h=>((V.o b).1 h).1),(aF bN.o aH.o).trans (uq.below (Q6 bN.o.size aH.o.size) (λb D e=>by have:=(Zj dG.o.own e).1; omega))⟩;have X6:Hid ((bs5++[(r5,T5)]).map Prod.snd=S (k+1)):=by show _=_; rw[Qi,bG.o.2,pQ.o]; rfl
      clear dF hT T U gH W dB Yh uq gJ gu cu;generalize bs5++[(r5,T5)]=bs6 at *;go_wp2_with (first | (at_builtin; refine Zt rfl (.tmp 91) (.tmp 98) 133 rfl (.slice za zm zc) (.slice (some (aD x2.heap.size 0)) 1 1) (.slice ua um uc) x3 rfl rfl gI ?_));clear gI a0 a1 a2 a3 a4 a5 a6 a7 a8 a9 ji jE I n0 n1 n2 n3 n4 n5 n6;go_wp2;go_roundw
      case rel=>exact⟨k+1,bs6,by omega,by go_num,X6.o,HF.o.1,HF.o.2⟩
      case measure=>simp[intOf]; omega
  ·have aI:cn=k:=by omega
   have HF:Hid (bs.map Prod.snd=R):=by have:=DW.o;rw[<- aI,J2.o,gU.o]at this;exact this
   clear aI;go_wp2;go_ret;exact⟨.slice pa pm pc,bs,rfl,HF.o,ax.o.base H.o.size,aF H.o jo.o⟩
structure rD(T Tl:TypeId)(F:Nat->Prop)(base:Nat)(w:World)(lv:Value)(ls:List jN)(bs:List (Nat × aQ)):Prop where
 own:w.ownsRow base Tl 1 lv ls.length (ls.map jN.val)
 flat:gM ls=bs.map Prod.fst
 each:∀ x∈ls,ed w (some x.ad) x.xs/\x.ad.block<w.heap.size/\lv.ownBlock≠some x.ad.block
 tree:∀ x∈bs,aT T (Fv F lv) w x.1 x.2/\base<=x.1/\x.1<w.heap.size
 rise:(bs.map Prod.fst).Pairwise (· < ·)
theorem rD.nil(T Tl:TypeId)(F:Nat->Prop)(base:Nat)(w:World):rD T Tl F base w (.slice none 0 0) [] []:=
 ⟨Zu _ _ _ _,rfl,(λx a=>by cases a),(λx a=>by cases a),List.Pairwise.nil⟩
theorem Sm(ls:List jN)(x:jN):gM (ls++[x])=gM ls++x.xs:=by unfold gM;simp
theorem rD.push{base:Nat}{w0:World}{lv' u:Value}{us:List (Nat × aQ)}(h:rD T Tl F base w0 lv ls bs)(hb:Bw w0 w)(hu:dC T Tp (Fv F lv) w0.heap.size w u us){ua:Addr}{uc:Nat}(hue:u=.slice (some ua) us.length uc)(hup:ed w (some ua) (us.map Prod.fst))(hun:w0.heap.size<=ua.block/\ua.block<w.heap.size)(hbase:base<=w0.heap.size)
  (ho:w'.ownsRow base Tl 1 lv' (ls++[(⟨ua,uc,us.map Prod.fst⟩:jN)]).length ((ls++[(⟨ua,uc,us.map Prod.fst⟩:jN)]).map jN.val)) (hk:Kept (λb=>lv.ownBlock≠some b) w w') (hat:lv'.ownBlock=lv.ownBlock∨∃ g,lv'.ownBlock=some g/\w.heap.size<=g):rD T Tl F base w' lv' (ls++[⟨ua,uc,us.map Prod.fst⟩]) (bs++us):=by
 have f:∀ b,b<w.heap.size->lv.ownBlock≠some b->lv'.ownBlock≠some b:=λb q r e=>by grind
 have l:∀ b,lv.ownBlock=some b->b<w0.heap.size:=λb e=>(Zj h.own e).2;refine⟨ho,?_,λx d=>?_,λx d=>?_,?_⟩
 ·rw[Sm,h.flat,Qi]
 ·rcases ZK.1 d with d | d
  ·obtain⟨i,j,k⟩:=h.each x d;have o:=QH j hb.size;exact⟨(i.below hb).bI hk (λ_ a e=>by grind),QH o hk.size,f _ o k⟩
  ·rw[Zy]at d;rw[d];have m:lv.ownBlock≠some ua.block:=λe=>by have:=l _ e; omega
   exact⟨hup.bI hk (λ_ a e=>by grind),QH hun.2 hk.size,f _ hun.2 m⟩
 ·rcases ZK.1 d with d | d
  ·obtain⟨i,j,k⟩:=h.tree x d;exact⟨(i.below hb).pushed hk hat,j,QH k (Q6 hb.size hk.size)⟩
  ·obtain⟨i,j,k⟩:=hu.tree x d;exact⟨i.M9.pushed hk hat,Q6 hbase j,QH k hk.size⟩
 ·rw[Qi,List.pairwise_append];refine⟨h.rise,hu.rise,λx d y hy=>?_⟩;obtain⟨z,hz,rfl⟩:=QZ.1 d;obtain⟨p,n,rfl⟩:=QZ.1 hy;exact QH (h.tree z hz).2.2 (hu.tree p n).2.1
theorem rD.lists{base:Nat}(h:rD T Tl F base w lv ls bs):∃ d cap,lv=.slice d ls.length cap/\acW w d ls:=by
 have b:∀ i,i<ls.length->ls.getD i KC∈ls:=λi a=>by grind
 rcases iR h.own with⟨rfl,h0⟩ | ⟨g,cap,rfl,_,_,hc⟩
 ·have:=Zl h0;subst this;exact⟨none,0,rfl,λi a=>absurd a (by simp),λi a=>absurd a (by simp)⟩
 ·refine⟨_,cap,rfl,λi a=>⟨g,0,rfl,?_⟩,λi a=>(h.each _ (b i a)).1⟩
  grind
theorem CW(ts:List af)(q:ae)(conc:List Nat)(l:aQ)(g:List aj)(h8:conc.length<=8):0<(dX ts q conc l g).length/\(dX ts q conc l g).length<=17:=by
 have b:=sV conc l.d.sources ((bC g).getD pK).d.sources;have e:=Jb b (by omega);unfold dX;simp only;refine⟨?_,?_⟩
 ·generalize cZ (aR conc l.d.sources ((bC g).getD pK).d.sources)=cl;have key:∀ (a:List Int) (acc:List aQ),0<acc.length->0<(a.foldl (fF ts q l ((bC g).getD pK) g cl) acc).length:=by
   intro a
   induction a with
   | nil => intro acc h; exact h
   | cons k a ih =>
    intro acc h;refine ih _ ?_;unfold fF;simp only;split
    ·split
     ·simp
     ·split <;> simp
    ·exact h
  exact key _ _ (by simp)
 ·refine Q6 (yK ts q l _ g _ _ _) ?_;simp;omega
theorem Tryz.Yl:(Tryz.prog.info? 133).map (λi=>(i.zero,i.size,i.bytes))=some (some (.slice none 0 0),1,24):=by kernel_rfl
theorem Ym(W:World)(base:Nat)(v:Value)(ls:List jN)(hown:W.ownsRow base 133 1 v ls.length (ls.map jN.val))(hl:ls.length<=1000)(hb:base<=W.heap.size)(x:jN)(ty:TypeId) :
  ∃ d w',(Builtin.append_ #[206,206] ty #[v,.slice (some (aD W.heap.size 0)) 1 1]).run Tryz.prog (W.alloc (.cells #[x.val] 133))=.ok d w'/\
   w'.ownsRow base 133 1 d (ls++[x]).length ((ls++[x]).map jN.val)/\Kept (λb=>v.ownBlock≠some b) W w'/\(∃ a m c,d = .slice a m c)/\(d.ownBlock=v.ownBlock∨d.ownBlock=some (W.heap.size+1)):=by
 obtain⟨j,k,e,f,g⟩:=Zv Tryz.Yl;obtain⟨d,w',n,o,p,q,l⟩:=jX (P:=Tryz.prog) W base 206 ty 133 j _ 1 24 Tryz.underlying206 k e f g rfl (by decide) v ls.length _ hown hb [x.val] rfl (λu i=>by
  rw[Zy]at i;rw[i];rfl) hl (by decide)
 grind
theorem Yn(E:Env f ts q W0)(hz:Fz F W0 w){ga:Nat}{Aa:Nat->Nat}{oa:List ai}{a:List aj}(hA:bM 135 160 F w ga Aa oa a)(hal:a.length<=20)(gca:Nat)(hao:∀ p∈a,∀ x,p.2=some x->kN q x.2){Ab:Nat->Nat}{ob:List ai}{b:List aj}(hB:bM 135 160 F w gb Ab ob b)(hbl:b.length<=20)(gcb:Nat)(hbo:∀ p∈b,∀ x,p.2=some x->kN q x.2)(hs:(bC b).isSome=true) :
  Calls Tryz.prog 97 #[.agg (f.cells ts q),.slice (some (aD ga 0)) a.length gca,.slice (some (aD gb 0)) b.length gcb] w (lh 135 95 F w (fK ts q (aN ts q) a b)):=by
 obtain⟨v0,v1,v2,v3,v4,v5,v6,v7,v8,v9,aa,ag,ah,bR,-⟩:=Z6 f ts q;obtain⟨w1,bJ,ak,aU⟩:=bn w #[v0,v1,v2,v3,v4,v5,v6,v7,v8,v9,aa,ag,ah] 68;have C:=EX (hA.below ak) hal gca;obtain⟨d,y⟩:∃ P,P=dG a:=⟨_,rfl⟩;rw[<- y]at C;have bu:d.length<=20:=by rw[y];have:=vw a a.length;rw[QT]at this;omega
 obtain⟨B,L⟩:∃ J:Nat->List aQ,J=λk=>(d.take k).flatMap λx=>dX ts q (aN ts q) x.2 b:=⟨_,rfl⟩;have aH:Hid (∀ k,k<d.length->B (k+1)=B k++dX ts q (aN ts q) (d.getD k (0,pK)).2 b):=λk hk=>by rw[L];show (d.take (k+1)).flatMap _=_;rw[Xq d (0,pK) hk,QO];simp
 have bz:Hid (B d.length=fK ts q (aN ts q) a b):=by show _=_;rw[L];show (d.take d.length).flatMap _=_;rw[QT,y];rfl
 have h8:(aN ts q).length<=8:=by rw[ZB]; exact E.eight
 have aI:Hid (∀ t,0<(dX ts q (aN ts q) t b).length/\(dX ts q (aN ts q) t b).length<=17):=λt=>CW ts q _ t b h8;have W:Hid (∀ k,k<d.length->aT 135 F w ((d.map λx=>Aa x.1).getD k 0) (d.getD k (0,pK)).2/\kN q (d.getD k (0,pK)).2):=λk hk=>by
  have e1:(d.map λx=>Aa x.1).getD k 0=Aa (d[k]).1:=by grind
  have e2:d.getD k (0,pK)=d[k]:=by grind
  rw[e1,e2];have hm:d[k]∈dG a:=by rw[<- y]; exact ZQ hk
  rcases kg a [] _ hm with h0 | ⟨p,hp,e⟩
  ·cases h0
  ·exact⟨hA.tree p hp _ e,hao p hp _ e⟩
 have Nz:Hid (∀ (G:Nat->Prop) (x:World) (Q:Nat) (t:aQ),Fz G W0 x->aT 135 G x Q t->kN q t->bM 135 160 G x gb Ab ob b->Calls Tryz.prog 138 #[.agg #[v0,v1,v2,v3,v4,v5,v6,v7,v8,v9,aa,ag,ah],.pointer (some (aD Q 0)),.slice (some (aD gb 0)) b.length gcb] x (lh 135 95 G x (dX ts q (aN ts q) t b))):=λG x Q t hx ht bN hg=>by rw[<- bR];exact Sj E hx Q t ht bN hg hbl gcb hbo hs
 have r:Hid ((d.map λx=>Aa x.1).length=d.length):=QQ _;have aJ:=Zh ak;have uk:=Zh aU;have HZ:=Zh hz;have sI:=Zh hB;have bA:Hid (B 0=[]):=by show _=_; rw[L]; rfl
 rw[bR];clear bR E hz hA hB hao hbo hs y L h8 ak aU;generalize fK ts q (aN ts q) a b=R at *;generalize (d.map λx=>Aa x.1)=xs at *;obtain⟨al,aV⟩:∃ n,n=a.length:=⟨_,rfl⟩;obtain⟨bl,aW⟩:∃ n,n=b.length:=⟨_,rfl⟩;rw[<- aV]at C ⊢;rw[<- aW]at Nz ⊢;clear aV aW hal hbl;obtain⟨JT,M⟩:∃ J:aQ->List aQ,J=λt=>dX ts q (aN ts q) t b:=⟨_,rfl⟩;have R7:Hid (∀ k,k<d.length->B (k+1)=B k++JT (d.getD k (0,pK)).2):=by rw[M]; exact aH.o
 have bB:Hid (∀ t,0<(JT t).length/\(JT t).length<=17):=by rw[M]; exact aI.o
 have bD:Hid (∀ (G:Nat->Prop) (x:World) (Q:Nat) (t:aQ),Fz G W0 x->aT 135 G x Q t->kN q t->bM 135 160 G x gb Ab ob b->Calls Tryz.prog 138 #[.agg #[v0,v1,v2,v3,v4,v5,v6,v7,v8,v9,aa,ag,ah],.pointer (some (aD Q 0)),.slice (some (aD gb 0)) bl gcb] x (lh 135 95 G x (JT t))):=by rw[M]; exact Nz.o
 clear aH aI Nz M;obtain⟨PL,aX⟩:∃ n,n=d.length:=⟨_,rfl⟩;rw[<- aX]at R7 W r bz bu;obtain⟨PD,au⟩:∃ D:Nat->aQ,D=λk=>(d.getD k (0,pK)).2:=⟨_,rfl⟩;have bE:Hid (∀ k,k<PL->B (k+1)=B k++JT (PD k)):=by rw[au]; exact R7.o
 have bF:Hid (∀ k,k<PL->aT 135 F w (xs.getD k 0) (PD k)/\kN q (PD k)):=by rw[au]; exact W.o
 clear R7 W aX au d;go_enter Tryz.func97,Tryz.ntmps97;go_wp2_with fail;refine C.mono ?_;rintro e w2 ⟨vp,rfl,aY,av⟩;obtain⟨xa,xc,rfl,aZ,-⟩:=nS aY (by rw[r.o]; omega);rw[r.o];have UH:=Zh aZ;have aK:=Zh (uk.o.keep (Q7 (s:=λb=>b<w1.heap.size) av (λ_ h _=>h)) uk.o.lt);have l:=Zh (aF aJ.o av);clear C aY aZ av bJ uk aJ;go_wp2;go_loopw [7,13] (λlv xv wr=>∃ (k:Nat) (ls:List jN) (bs:List (Nat × aQ)),k<=PL/\xv=.int .i64 (k:Int)/\Hid (bs.map Prod.snd=B k)/\Hid (ls.length=k/\bs.length<=17*k)/\Hid (rD 135 133 F w2.heap.size wr lv ls bs)/\Hid (Bw w2 wr)) (λ_ xv _=>PL-(intOf xv).toNat)
 case atStart=>exact⟨0,[],[],QK _,rfl,bA.o.symm,⟨rfl,by simp⟩,rD.nil _ _ _ _ _,Qm _ _⟩
 case round=>
  obtain⟨k,ls,bs,hk,rfl,DW,WU,N,V⟩:=hrel;obtain⟨la,lc,rfl,O⟩:=N.o.lists;have bG:=Zh O;by_cases T:k<PL
  ·obtain⟨kb,Ag,rfl,bf⟩:=ed.get (UH.o.below V.o) (i:=k) (by rw[r.o]; exact T);have aL:=bf k (by rw[r.o]; exact T);obtain⟨Q,ax⟩:∃ x,x=xs.getD k 0:=⟨_,rfl⟩
   rw[<- ax]at aL;have H:=bF.o k T;rw[<- ax]at H;have I:=aF l.o V.o;have hv:∀ z,(Value.slice la ls.length lc).ownBlock=some z->w2.heap.size<=z/\z<wr.heap.size:=λz e=>Zj N.o.own e;have X:=bD.o (Fv F (.slice la ls.length lc)) wr Q (PD k) ((HZ.o.next I).own (λz e=>by have:=hv z e; have:=HZ.o.below.size; have:=l.o.size; omega)) (H.1.own I (λz e=>by have:=hv z e; have:=l.o.size; omega)) H.2 ((sI.o.mono (G:=Fv F (.slice la ls.length lc)) (λb hb h=>⟨h,λe=>by have:=hv b e; have:=l.o.size; omega⟩)).below I);have pQ:=Zh (bE.o k T);have aM:=Zh (bB.o (PD k));have hf:=aK.o.keep (Q7 (s:=λb=>b<w2.heap.size) V.o (λ_ h _=>h)) aK.o.lt;obtain⟨a0,a1,a2,a3,a4,a5,a6,a7,a8,a9,ji,jE,bK⟩:=hf.k13;generalize JT (PD k)=JX at *;obtain⟨bL,ay⟩:∃ n,n=ls.length:=⟨_,rfl⟩;rw[<- ay]at X ⊢;have zk:=Zh ay;clear bf ax H I hv hf ay;go_wp2_with fail;refine X.mono ?_;rintro e w3 ⟨u,us,rfl,az,A,m⟩;rw[zk.o]at A;have Y:us.length=JX.length:=by rw[<- az,QQ]
   have aO:=A.own;have j:=A.len;have Z:0<us.length:=by rw[Y]; exact aM.o.1
   have bH:us.length<=17:=by rw[Y]; exact aM.o.2
   obtain⟨uo,uc,aA,aB,-,-,bg⟩:=nS (xs:=us.map Prod.fst) aO (by rw[j]; omega);obtain⟨ub,Yo,rfl,bq⟩:=ed.get aB (i:=0) (by rw[j]; exact Z);rw[j]at aA;have aP:=bg _ rfl;have v:=WU.o;have aR:ub<w3.heap.size:=Za (bq 0 (by rw[j]; exact Z));obtain⟨v5,y5,qA,pF,aG,⟨za,zm,zc,rfl⟩,vF⟩:=Ym w3 w2.heap.size (.slice la ls.length lc) ls (ZM N.o.own m) (by omega) (Q6 V.o.size m.size) ⟨(aD ub Yo),uc,us.map Prod.fst⟩ 206;have Yf:Hid (rD 135 133 F w2.heap.size y5 (.slice za zm zc) (ls++[⟨(aD ub Yo),uc,us.map Prod.fst⟩]) (bs++us)):=N.o.push m A aA aB ⟨aP,aR⟩ V.o.size pF aG (by
    rcases vF with h | h
    ·exact .inl h
    ·exact .inr ⟨_,h,by omega⟩)
   have K:Hid ((bs++us).map Prod.snd=B (k+1)/\(ls++[(⟨(aD ub Yo),uc,us.map Prod.fst⟩:jN)]).length=k+1/\(bs++us).length<=17*(k+1)/\Bw w2 y5):=⟨by rw[Qi,DW.o,az,pQ.o],by simp; omega,by rw[QP]; omega,(aF V.o m).trans (aG.below (Q6 V.o.size m.size) (λb hb e=>by have:=(Zj N.o.own e).1; omega))⟩;have U:(⟨(aD ub Yo),uc,us.map Prod.fst⟩:jN).val=.slice (some (aD ub Yo)) us.length uc:=by unfold jN.val; rw[j]
   rw[U]at qA;rw[<- zk.o]at qA;generalize ls++[(⟨(aD ub Yo),uc,us.map Prod.fst⟩:jN)]=ls' at *;generalize bs++us=bs' at *;subst aA;clear X az A m Y aO j Z bH aB bg bq aP v aR pF aG vF U a0 a1 a2 a3 a4 a5 a6 a7 a8 a9 ji jE bK aL;go_wp2_with (first | (at_builtin; refine Zt rfl (.tmp 17) (.tmp 22) 206 rfl (.slice la bL lc) (.slice (some (aD w3.heap.size 0)) 1 1) (.slice za zm zc) y5 rfl rfl qA ?_));clear qA;go_wp2;go_roundw
   case rel=>exact⟨k+1,ls',bs',by omega,by go_num,K.o.1,⟨K.o.2.1,K.o.2.2.1⟩,Yf.o,K.o.2.2.2⟩
   case measure=>simp[intOf]; omega
  ·have bI:PL=k:=by omega
   have v:=WU.o;have j:(gM ls).length=bs.length:=by rw[N.o.flat,QQ]
   have GA:=Ny la lc ls wr bG.o (by omega) (by rw[j]; omega);have iL:Hid (bs.map Prod.snd=R):=by have:=DW.o;grind
   clear bI v j;go_wp2_with fail;refine GA.mono ?_;rintro e w4 ⟨vr,rfl,BI,S⟩;have HF:Hid (lh 135 95 F w R (.returned vr) w4):=by
    rw[N.o.flat]at BI;have aS:=aF l.o V.o;refine⟨vr,bs,rfl,iL.o,⟨?_,λx hx=>?_,N.o.rise⟩,aF aS S⟩
    ·rw[QQ]at BI;exact oL BI aS.size
    ·obtain⟨h1,h2,h3⟩:=N.o.tree x hx;exact⟨h1.M9.own S (λg e=>(Zj BI e).1),Q6 l.o.size h2,QH h3 S.size⟩
   obtain⟨bO,rm,rc,rfl⟩:=Zk BI;clear GA BI S;go_wp2;go_ret;exact HF.o
