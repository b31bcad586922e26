import Derived.Test.YtlpbelhfpoilpaaGreatDoorRE14
set_option linter.all false
set_option maxRecDepth 100000
set_option maxHeartbeats 16000000
namespace Go.Proofs.Zz
open Go.RowKit Go.Shelf
variable {W:World} {B:Nat}
def J4(a:Nat)(g:Nat->Nat):Nat->Nat
 | 0 => a
 | k+1 => J4 a g k|||g k
theorem BU{a:Nat}{g:Nat->Nat}{n:Nat}(ha:a<2 ^ n):∀ k,(∀ i,i<k->g i<2 ^ n)->J4 a g k<2 ^ n
 | 0,_ => ha
 | k+1,h => Xk (BU ha k (fun i hi => h i (by omega))) (h k (by omega))
theorem FD(a:Nat)(g:Nat->Nat){k:Nat}(hk:k<=2)(h:∀ i,k<=i->g i=0):J4 a g k=a|||g 0|||g 1:=by
 rcases (by omega:k=0∨k=1∨k=2) with rfl | rfl | rfl
 ·rw[h 0 (by omega),h 1 (by omega),Nat.or_zero,Nat.or_zero]; rfl
 ·rw[h 1 (by omega),Nat.or_zero]; rfl
 ·rfl
def World.eG(W:World)(B:Nat)(v0 v1 v2 v3 v4 v5:Value):World:=
 (((((W.setCell (aD B 0) v0).setCell (aD B 1) v1).setCell (aD B 2) v2).setCell (aD B 3) v3).setCell (aD B 4) v4).setCell (aD B 5) v5
theorem World.qM{t:TypeId}{a0 a1 a2 a3 a4 a5:Value}(h:GB W B t #[a0,a1,a2,a3,a4,a5])(v0 v1 v2 v3 v4 v5:Value):GB (World.eG W B v0 v1 v2 v3 v4 v5) B t #[v0,v1,v2,v3,v4,v5]:=
 (((((h.set 0 v0).set 1 v1).set 2 v2).set 3 v3).set 4 v4).set 5 v5
theorem World.kP(W:World)(B:Nat)(v0 v1 v2 v3 v4 v5:Value):Kept (fun x=>x≠B) W (World.eG W B v0 v1 v2 v3 v4 v5):=by
 unfold World.eG;exact(((((ZL _ (aD B 0) _ (fun h=>h rfl)).trans (ZL _ (aD B 1) _ (fun h=>h rfl))).trans (ZL _ (aD B 2) _ (fun h=>h rfl))).trans (ZL _ (aD B 3) _ (fun h=>h rfl))).trans (ZL _ (aD B 4) _ (fun h=>h rfl))).trans (ZL _ (aD B 5) _ (fun h=>h rfl))
theorem qd{v0 v1 v2 v3 v4 v5:Value}(h:GB W B 95 #[v0,v1,v2,v3,v4,v5]):(loadVar 95 (aD B 0)).run Tryz.prog W=.ok (.agg #[v0,v1,v2,v3,v4,v5]) W:=by
 obtain⟨c0,c1,c2,c3,c4,c5⟩:=h.k6;simp[go_sem,c0,c1,c2,c3,c4,c5]
theorem BV(f:au)(ts:List af)(q:ae)(n:ai)(ao:Option Addr)(cap:Nat)(ps:List az)(w:World)(ok:Ok ts q)(hf:f.At ts q w)(hcl:n.cl.At w)(hco:n.co.At w)(hcap:n.co.xs.length<=n.co.cap)(hp:PartsAt w ao ps)(hk1:1<=n.kind)(hk10:n.kind<=10)
  (hl:ps.length=arity n.kind) (hsm:gG q.wh.length n.cl.xs) (hsr:n.kind=1->0<=n.source/\n.source<q.src.xs.length) (hps:∀ i,i<ps.length->(ps.getD i aT).sources<2 ^ q.src.xs.length/\(ps.getD i aT).clauses<2 ^ q.wh.length) :
  Calls Tryz.prog 131 #[.agg (f.cells ts q),.agg n.cells,.slice ao ps.length cap] w fun e w'=>∃ p:az,e=.returned (.agg p.cells)/\p.d=mf ts q n (ps.getD 0 aT).d (ps.getD 1 aT).d/\p.Ok w'/\p.sources<2 ^ q.src.xs.length/\p.clauses<2 ^ q.wh.length/\(p.order=n.co∨p.order=(ps.getD 0 aT).order∨p.order=⟨none,0,[]⟩)/\Bw w w':=by
 have har:arity n.kind<=2:=by unfold arity; split <;> (try split) <;> omega
 have hpw:=hp.1;have hPZ:∀ i,ps.length<=i->ps.getD i aT=aT:=fun i hi=>by simp[List.getD,hi]
 obtain⟨ow,how⟩:∃ ow,ow=(if n.kind=1 then 2 ^ n.source.toNat else 0):=⟨_,rfl⟩
 have RQ:=ok.small;have RU:=ok.mP;have akw:ow<2 ^ q.src.xs.length:=by
  rw[how];split
  ·rename_i h
   have:=hsr h;exact Xi (by omega) (by omega)
  ·exact Nat.two_pow_pos _
 obtain⟨sc,hsc⟩:=eY (bE n.cl.xs)
 have akx:sc<2 ^ q.wh.length:=by rw[hsc]; exact qy hsm
 obtain⟨SK,hSK⟩:=eY (J4 ow (fun i=>(ps.getD i aT).sources))
 obtain⟨CK,hCK⟩:=eY (J4 sc (fun i=>(ps.getD i aT).clauses))
 have HS0:Hid (SK 0=ow):=by show _=_; rw[hSK]; rfl
 have akz:Hid (CK 0=sc):=by show _=_; rw[hCK]; rfl
 have Gy:Hid (∀ k,SK (k+1)=SK k|||(ps.getD k aT).sources):=fun k=>by rw[hSK]; rfl
 have Oc:Hid (∀ k,CK (k+1)=CK k|||(ps.getD k aT).clauses):=fun k=>by rw[hCK]; rfl
 have Fu:Hid (∀ k,k<=ps.length->SK k<2 ^ q.src.xs.length):=fun k hk=>by rw[hSK]; exact BU akw k (fun i hi=>(hps i (by omega)).1)
 have qI:Hid (∀ k,k<=ps.length->CK k<2 ^ q.wh.length):=fun k hk=>by rw[hCK]; exact BU akx k (fun i hi=>(hps i (by omega)).2)
 have h64:∀ {x m:Nat},m<=64->x<2 ^ m->x<18446744073709551616:=fun hm hx=>Q6 hx (Q7 (n:=2) (by omega) hm)
 have htop:∀ {x:Nat},x<18446744073709551616->x<=bV:=fun h=>by unfold bV; omega
 have xC:Hid (SK ps.length=ow|||(ps.getD 0 aT).sources|||(ps.getD 1 aT).sources):=by show _=_; rw[hSK]; exact FD _ _ (by omega) (fun i hi=>by rw[hPZ i hi]; rfl)
 have HCE:Hid (CK ps.length=sc|||(ps.getD 0 aT).clauses|||(ps.getD 1 aT).clauses):=by show _=_; rw[hCK]; exact FD _ _ (by omega) (fun i hi=>by rw[hPZ i hi]; rfl)
 have HPP:Hid (∀ (o:List Int) (z:Nat),o=(if n.kind=6 then n.co.xs else if 2<=n.kind/\n.kind<=5 then (ps.getD 0 aT).order.xs else [])->z=(if eD n.kind=true then (ps.getD 0 aT).size else oC ts q (SK ps.length) (CK ps.length))->
   bZ.mk n.kind (SK ps.length) (CK ps.length) o z (kU n.kind z (ps.getD 0 aT).cost (ps.getD 0 aT).size (ps.getD 1 aT).cost (ps.getD 1 aT).size)=mf ts q n (ps.getD 0 aT).d (ps.getD 1 aT).d):=fun o z ho hz=>by
  unfold mf;rw[ho,hz,xC.o,HCE.o,how,hsc];rfl
 have HOW:Hid (∀ x,Cb 206 #[.agg n.cells] x (.int .u64 ((ow:Nat):Int))):=fun x=>by rw[how]; exact BS n x (fun h=>⟨(hsr h).1,by have:=(hsr h).2; omega⟩)
 have HST:Hid (∀ x,Bw w x->Ce 164 #[n.cl.val] x (.int .u64 ((sc:Nat):Int))):=fun x hx=>by rw[hsc]; exact Fp n.cl.ad n.cl.cap n.cl.xs x (Qv hx hcl) (fun y hy=>⟨(hsm y hy).1,by have:=(hsm y hy).2; omega⟩)
 have HUN:Hid (∀ (b x y:Nat) (W:World),W.cell? (aD b 0)=some (.int .u64 (x:Int))->W.cell? (aD b 1)=some (.int .u64 (y:Int))->x<18446744073709551616->y<18446744073709551616->Ce 195 #[.slice (some (aD b 0)) 2 2] W (.int .u64 ((x|||y:Nat):Int))):=fun b x y W h0 h1 hx hy=>jM b x y W h0 h1 hx hy
 have vJ:Hid (∀ (o:ah) (x:World),Bw w x->Calls Tryz.prog 207 #[.agg (f.cells ts q),.agg #[.int .i64 n.kind,.int .u64 (SK ps.length:Int),.int .u64 (CK ps.length:Int),o.val,.int .u64 0,.int .u64 0],.slice ao ps.length cap] x fun e w'=>e=.returned (.int .u64 (((if eD n.kind=true then (ps.getD 0 aT).size else oC ts q (SK ps.length) (CK ps.length)):Nat):Int))/\Bw x w'):=fun o x hx=>
  N9 f ts q ⟨n.kind,SK ps.length,CK ps.length,o,0,0⟩ ao cap ps x ok (hf.below hx) (hp.below hx) (Fu.o _ (Qx _)) (qI.o _ (Qx _)) (fun h=>by
   have h2:7<=n.kind:=by unfold eD at h; simp at h; omega
   rw[hl]; unfold arity; rw[Qz (by omega),Qz (by omega)]; omega)
 obtain⟨Z,hZ⟩:∃ Z,Z=(if eD n.kind=true then (ps.getD 0 aT).size else oC ts q (SK ps.length) (CK ps.length)):=⟨_,rfl⟩
 have hZt:Z<=bV:=by
  rw[hZ];split
  ·rename_i h
   have h2:7<=n.kind:=by unfold eD at h; simp at h; omega
   exact(hp.2 0 (by rw[hl]; unfold arity; rw[Qz (by omega),Qz (by omega)]; omega)).2.size
  ·exact Ye _ _ _ _
 rw[<- hZ]at vJ;have J5:Hid (∀ (o:ah) (x:World),Bw w x->Cb 208 #[.agg #[.int .i64 n.kind,.int .u64 (SK ps.length:Int),.int .u64 (CK ps.length:Int),o.val,.int .u64 (Z:Int),.int .u64 0],.slice ao ps.length cap] x (.int .u64 (kU n.kind Z (ps.getD 0 aT).cost (ps.getD 0 aT).size (ps.getD 1 aT).cost (ps.getD 1 aT).size:Nat))):=fun o x hx=>
  NR ⟨n.kind,SK ps.length,CK ps.length,o,Z,0⟩ ao cap ps x (hp.below hx) hZt (fun h=>by have h:n.kind≠1:=h; rw[hl]; unfold arity; rw[Qz h]; split <;> omega) (fun h3 h5=>by have h3:3<=n.kind:=h3; have h5:n.kind<=5:=h5; rw[hl]; unfold arity; rw[Qz (by omega),Qy ⟨h3,h5⟩]; omega)
 have V4:Hid (∀ (o:ah) (W:World),o.At W->o.xs.length<=o.cap->o.xs=(if n.kind=6 then n.co.xs else if 2<=n.kind/\n.kind<=5 then (ps.getD 0 aT).order.xs else [])->(o=n.co∨o=(ps.getD 0 aT).order∨o=⟨none,0,[]⟩)->Bw w W->
   ∃ p:az,Ending.returned (.agg #[.int .i64 n.kind,.int .u64 (SK ps.length:Int),.int .u64 (CK ps.length:Int),o.val,.int .u64 (Z:Int),.int .u64 ((kU n.kind Z (ps.getD 0 aT).cost (ps.getD 0 aT).size (ps.getD 1 aT).cost (ps.getD 1 aT).size:Nat):Int)])=.returned (.agg p.cells)/\p.d=mf ts q n (ps.getD 0 aT).d (ps.getD 1 aT).d/\p.Ok W/\p.sources<2 ^ q.src.xs.length/\p.clauses<2 ^ q.wh.length/\(p.order=n.co∨p.order=(ps.getD 0 aT).order∨p.order=⟨none,0,[]⟩)/\Bw w W):=fun o W ho hoc hox RV hb=>
  ⟨⟨n.kind,SK ps.length,CK ps.length,o,Z,kU n.kind Z (ps.getD 0 aT).cost (ps.getD 0 aT).size (ps.getD 1 aT).cost (ps.getD 1 aT).size⟩,rfl,HPP.o o.xs Z hox hZ,⟨ho,hoc,htop (h64 RQ (Fu.o _ (Qx _))),htop (h64 RU (qI.o _ (Qx _))),hZt,Yf _ _ _ _ _ _⟩,Fu.o _ (Qx _),qI.o _ (Qx _),RV,hb⟩
 have akA:Hid (∀ k,k<=ps.length->SK k<18446744073709551616):=fun k hk=>h64 RQ (Fu.o k hk)
 have akB:Hid (∀ k,k<=ps.length->CK k<18446744073709551616):=fun k hk=>h64 RU (qI.o k hk)
 have akC:Hid (∀ k,k<ps.length->(ps.getD k aT).sources<18446744073709551616/\(ps.getD k aT).clauses<18446744073709551616):=fun k hk=>⟨h64 RQ (hps k hk).1,h64 RU (hps k hk).2⟩
 have HL2:Hid (2<=n.kind/\n.kind<=5->0<ps.length):=fun h=>by rw[hl]; unfold arity; rw[Qz (by omega)]; split <;> omega
 generalize kU n.kind Z (ps.getD 0 aT).cost (ps.getD 0 aT).size (ps.getD 1 aT).cost (ps.getD 1 aT).size=CT at *;have HP:Hid _:=hp;have nG:Hid _:=hco;have HCAP:=Zh hcap;obtain⟨v0,v1,v2,v3,v4,v5,v6,v7,v8,v9,v10,v11,v12,bB,-⟩:=Xu f ts q;rw[bB]at vJ ⊢;clear HPP Fu qI xC HCE hZ hZt h64 hps hsr hsm hl hf hcl hco hcap hp ok how hsc hSK hCK akw akx bB hPZ har RQ RU hk1 hk10;obtain⟨kind,nl,nr,src,⟨ca,cc,cl⟩,key,⟨da,dc,co⟩⟩:=n;unfold ai.cells ah.val at *;simp only at *;obtain⟨w1,hw1,hk1,hg1⟩:=aU w #[v0,v1,v2,v3,v4,v5,v6,v7,v8,v9,v10,v11,v12] 90;obtain⟨w2,hw2,hk2,hg2⟩:=aU w1 #[.int .i64 kind,.int .i64 nl,.int .i64 nr,.int .i64 src,.slice ca cl.length cc,.int .i64 key,.slice da co.length dc] 58;obtain⟨w3,hw3,hk3,hg3⟩:=aU w2 #[.int .i64 0,.int .u64 0,.int .u64 0,.slice none 0 0,.int .u64 0,.int .u64 0] 95;have hc2:=hk3;have hc1:=aA hk2 hc2;have hc0:=aA hk1 hc1;have iq:=hg1.of (hc1.block _ hg1.lt);obtain⟨dJ,dY,dH,dW,dZ,eU,eH,gy,fV,fZ,dz,dE,dA⟩:=iq.k13;have kI:=hg2.of (hc2.block _ hg2.lt);obtain⟨jJ,lJ,lK,mZ,kr,ng,ni⟩:=kI.k7;have gg3:=hg3;have HB3:=Zh hc0;have qp:Hid _:=gg3;have TW:=Zh (Zl hk1.size hk2.size);clear hk1 hk2 hk3 hg1 hg2 hg3 iq kI gg3 hc0 hc1 hc2;go_enter Tryz.func131,Tryz.ntmps131;go_upto_region 1 with fail;go_cut [7] from 10 to 17 (fun c wx=>∃ B,c=.pointer (some (aD B 0))/\w3.heap.size<=B/\GB wx B 95 #[.int .i64 kind,.int .u64 (ow:Int),.int .u64 (sc:Int),.slice none 0 0,.int .u64 0,.int .u64 0]/\Bw w3 wx)
 case first=>
  refine wH w3 fun hS=>?_
  refine wt 0 (.pointer (some (aD w1.heap.size 0))) hS ?_;refine lH 1 (.int .i64 kind) hS jJ ?_;refine wT 2 (.agg #[.int .i64 kind,.int .i64 nl,.int .i64 nr,.int .i64 src,.slice ca cl.length cc,.int .i64 key,.slice da co.length dc]) hS (fun x hx=>?_) ?_
  ·have e0:=IJ hx jJ lJ lK mZ kr ng ni;go_simp
  refine wt 4 (.pointer (some (aD w1.heap.size 4))) hS ?_;refine lH 5 (.slice ca cl.length cc) hS kr ?_;refine wJ 3 8 (fun K hK=>?_) fun K hK=>?_
  ·skip;go_simp;refine Xt (HOW.o _) ?_;rintro e w5 ⟨rfl,hb5⟩;refine oT hK hS hb5 fun hS=>?_
   clear hK K;have hS5:=hS;refine wJ 6 8 (fun K hK=>?_) fun K hK=>?_
   ·skip;go_simp;refine Xt (HST.o _ (HB3.o.trans (hS.mono HB3.o.size))) ?_;rintro e wz ⟨rfl,hwz⟩;have hwz:=hwz.symm;subst hwz;refine hK.o _ _ hS fun hS=>?_
    clear hK K;refine wt 7 (.agg #[.int .i64 kind,.int .u64 (ow:Int),.int .u64 (sc:Int),.slice none 0 0,.int .u64 0,.int .u64 0]) hS ?_;refine wR 8 fun K hK=>?_
    go_simp;refine oA hK hS fun hS=>?_
    clear hK K;refine wR 9 fun K hK=>?_
    go_simp;refine hK.o _ _ (hS5.trans ((dn _ _).mono hS5.size)) (fun hS=>?_);clear hK K;refine wD ?_
    try simp only[pU]
    go_wp2_with fail;go_meet;exact⟨w5.heap.size,rfl,hS5.size,l6 w5 _,hS⟩
   ·skip;go_simp;refine oA hK hS fun hS=>?_
    clear hK K;refine wR 6 fun K hK=>?_
    go_simp;refine Xt (HST.o _ (HB3.o.trans (hS.mono HB3.o.size))) ?_;rintro e wz ⟨rfl,hwz⟩;have hwz:=hwz.symm;subst hwz;refine hK.o _ _ hS fun hS=>?_
    clear hK K;refine wt 7 (.agg #[.int .i64 kind,.int .u64 (ow:Int),.int .u64 (sc:Int),.slice none 0 0,.int .u64 0,.int .u64 0]) hS ?_;refine wR 9 fun K hK=>?_
    go_simp;refine hK.o _ _ (hS5.trans ((dn _ _).mono hS5.size)) (fun hS=>?_);clear hK K;refine wD ?_
    try simp only[pU]
    go_wp2_with fail;go_meet;exact⟨w5.heap.size,rfl,hS5.size,l6 w5 _,hS⟩
  ·skip;go_simp;refine oA hK hS fun hS=>?_
   clear hK K;refine wR 3 fun K hK=>?_
   go_simp;refine Xt (HOW.o _) ?_;rintro e w5 ⟨rfl,hb5⟩;refine oT hK hS hb5 fun hS=>?_
   clear hK K;have hS5:=hS;have hg5:=(show GB (w3.drew.alloc (.cells #[.int .i64 0,.int .u64 0,.int .u64 0,.slice none 0 0,.int .u64 0,.int .u64 0] 95)) w3.heap.size 95 #[.int .i64 0,.int .u64 0,.int .u64 0,.slice none 0 0,.int .u64 0,.int .u64 0] from l6 w3.drew _).of (hb5.block _ (by show w3.heap.size<_; simp));have z0:=hg5.at 0;have y0:=hg5.frozen 0;have z1:=hg5.at 1;have y1:=hg5.frozen 1;have z2:=hg5.at 2;have y2:=hg5.frozen 2;have z3:=hg5.at 3;have y3:=hg5.frozen 3;have z4:=hg5.at 4;have y4:=hg5.frozen 4;have z5:=hg5.at 5;have y5:=hg5.frozen 5;refine wR 6 fun K hK=>?_
   go_simp;refine Xt (HST.o _ (HB3.o.trans (hS.mono HB3.o.size))) ?_;rintro e wz ⟨rfl,hwz⟩;have hwz:=hwz.symm;subst hwz;refine hK.o _ _ hS fun hS=>?_
   clear hK K;refine wt 7 (.agg #[.int .i64 kind,.int .u64 (ow:Int),.int .u64 (sc:Int),.slice none 0 0,.int .u64 0,.int .u64 0]) hS ?_;refine wR 9 fun K hK=>?_
   go_simp;refine hK.o _ _ (hS5.trans ((World.kP w5 w3.heap.size (.int .i64 kind) (.int .u64 (ow:Int)) (.int .u64 (sc:Int)) (.slice none 0 0) (.int .u64 0) (.int .u64 0)).below (B:=w3.heap.size) hS5.size (fun b hb=>Nat.ne_of_lt hb))) (fun hS=>?_);clear hK K;refine wD ?_
   try simp only[pU]
   go_wp2_with fail;go_meet;exact⟨w3.heap.size,rfl,Qx _,World.qM hg5 (.int .i64 kind) (.int .u64 (ow:Int)) (.int .u64 (sc:Int)) (.slice none 0 0) (.int .u64 0) (.int .u64 0),hS⟩
 case rest=>
 obtain⟨B,rfl,hB,hgB,hb4⟩:=hcut;obtain⟨w4,hw4⟩:∃ x,x=wc:=⟨_,rfl⟩
 subst hw4;have qN:=hd hgB;have mH:Hid (∀ x,Kept (fun b=>b≠B) w4 x->Bw w3 x):=fun x hk=>hb4.trans (hk.below hb4.size (fun b hb=>by omega))
 have yP:Hid (∀ x,Kept (fun b=>b≠B) w4 x->Bw w x):=fun x hk=>HB3.o.trans ((mH.o x hk).mono HB3.o.size)
 clear hgB hb4 hB HOW HST hw1 hw2 hw3;go_wp2;go_loopw [20] (fun iv wr=>∃ k:Nat,k<=ps.length/\iv=.int .i64 k/\Hid (GB wr B 95 #[.int .i64 kind,.int .u64 (SK k:Int),.int .u64 (CK k:Int),.slice none 0 0,.int .u64 0,.int .u64 0])/\Hid (Kept (fun b=>b≠B) w4 wr)) (fun iv _=>ps.length-(intOf iv).toNat)
 case atStart=>exact⟨0,Q8 _,rfl,by rw[HS0.o,akz.o]; exact qN.o,Zn _ _⟩
 case round=>
  obtain⟨k,hk,rfl,HG,qG⟩:=hrel;by_cases hlt:k<ps.length
  ·obtain⟨⟨pb,po,rfl,c0,c1,c2,c3,c4,c5⟩,-⟩:=(Xb (yP.o wr qG.o) HP.o).2 k hlt;obtain⟨hi1,hi2⟩:=akC.o k hlt;have hs1:=akA.o k hk;have hc1:=akB.o k hk;have hSn:=Zh (Gy.o k);have hCn:=Zh (Oc.o k);obtain⟨⟨oa,l7,ox⟩,si⟩:∃ o,o=(ps.getD k aT).order:=⟨_,rfl⟩
   rw[<- si]at c3;unfold ah.val at c3;simp only at c3;clear si;generalize (ps.getD k aT).kind=pk at *;generalize (ps.getD k aT).sources=ss at *;generalize (ps.getD k aT).clauses=cs at *;generalize (ps.getD k aT).size=pz at *;generalize (ps.getD k aT).cost=pt at *;have sG:Hid (∀ x,x=SK (k+1)->∀ y,y=CK (k+1)->∀ wy,GB wy B 95 #[.int .i64 kind,.int .u64 (x:Int),.int .u64 (y:Int),.slice none 0 0,.int .u64 0,.int .u64 0]->Kept (fun b=>b≠B) wr wy->GB wy B 95 #[.int .i64 kind,.int .u64 (SK (k+1):Int),.int .u64 (CK (k+1):Int),.slice none 0 0,.int .u64 0,.int .u64 0]/\Kept (fun b=>b≠B) w4 wy):=fun x hx y hy wy h1 h2=>⟨by rw[<- hx,<- hy]; exact h1,qG.o.trans h2⟩
   obtain⟨s1,agn⟩:∃ x,x=SK (k+1):=⟨_,rfl⟩
   obtain⟨t1,agp⟩:∃ x,x=CK (k+1):=⟨_,rfl⟩
   have HFX:=Zh (sG.o s1 agn t1 agp);rw[<- agn]at hSn;rw[<- agp]at hCn;generalize SK k=s at *;generalize CK k=t at *;clear sG agn agp;obtain⟨wb,hwb,kb,gi⟩:=aU wr #[.int .i64 pk,.int .u64 (ss:Int),.int .u64 (cs:Int),.slice oa ox.length l7,.int .u64 (pz:Int),.int .u64 (pt:Int)] 95;have gb:=HG.o.of (kb.block _ HG.o.lt);have hBr:=HG.o.lt;obtain⟨wu,hwu,ku,gu⟩:=aU wb #[.int .u64 (s:Int),.int .u64 (ss:Int)] 86;have gub:=gb.of (ku.block _ gb.lt);have gui:=gi.of (ku.block _ gi.lt);have hU:=HUN.o wb.heap.size s ss wu (gu.cell 0) (gu.cell 1) hs1 hi1;rw[<- hSn.o]at hU;obtain⟨wv,hwv⟩:∃ x,wu.setCell (aD B 1) (.int .u64 (s1:Int))=x:=⟨_,rfl⟩
   have kv:Kept (fun b=>b≠B) wu wv:=by rw[<- hwv]; exact ZL _ _ _ (fun h=>h rfl)
   have gvb:GB wv B 95 #[.int .i64 kind,.int .u64 (s1:Int),.int .u64 (t:Int),.slice none 0 0,.int .u64 0,.int .u64 0]:=by rw[<- hwv]; exact gub.set 1 _
   have gvi:=gui.keep kv (by show wr.heap.size≠B; omega);obtain⟨wx,hwx,kx,gx⟩:=aU wv #[.int .u64 (t:Int),.int .u64 (cs:Int)] 86;have gxb:=gvb.of (kx.block _ gvb.lt);have hU2:=HUN.o wv.heap.size t cs wx (gx.cell 0) (gx.cell 1) hc1 hi2;rw[<- hCn.o]at hU2;have gyb:GB (wx.setCell (aD B 2) (.int .u64 (t1:Int))) B 95 #[.int .i64 kind,.int .u64 (s1:Int),.int .u64 (t1:Int),.slice none 0 0,.int .u64 0,.int .u64 0]:=gxb.set 2 _;have ky:Kept (fun b=>b≠B) wr (wx.setCell (aD B 2) (.int .u64 (t1:Int))):=((Zo kb (fun b hb _=>hb)).trans ((Zo ku (fun b hb _=>hb)).trans (kv.trans (Zo kx (fun b hb _=>hb))))).trans (ZL _ _ _ (fun h=>h rfl));have gz:=Zh (HFX.o _ gyb ky);have b1:=gb.at 1;have b2:=gi.at 1;have b3:=gub.at 1;have b4:=gub.frozen 1;have b5:=gvb.at 2;have b6:=gvi.at 2;have b7:=gxb.at 2;have b8:=gxb.frozen 2;clear HFX gyb ky kb gi gb ku gu gub gui kv gvb gvi kx gx gxb HG qG hSn hCn hi1 hi2 hs1 hc1;go_wp2_with fail;refine hU.mono ?_;rintro e wq ⟨rfl,hwq⟩;have hwq:=hwq.symm;subst hwq;clear hU;go_wp2_with fail;refine hU2.mono ?_;rintro e wq ⟨rfl,hwq⟩;have hwq:=hwq.symm;subst hwq;clear hU2;go_wp2;go_roundw
   case rel=>exact⟨k+1,by omega,by go_num,gz.o.1,gz.o.2⟩
   case measure=>simp[intOf]; omega
  ·obtain rfl:k=ps.length:=by omega
   obtain⟨w5,uT⟩:∃ x,x=wr:=⟨_,rfl⟩
   subst uT;clear hlt hk HS0 akz Gy Oc HUN akA akB akC;generalize SK ps.length=S at *;generalize CK ps.length=C at *;by_cases k6:kind=6
   ·subst k6;have e6:=cB (mH.o w5 qG.o) ni;have e0:=cB (mH.o w5 qG.o) jJ;have b3:=HG.o.at 3;have f3:=HG.o.frozen 3;obtain⟨w6,lS⟩:∃ x,w5.setCell (aD B 3) (.slice da co.length dc)=x:=⟨_,rfl⟩
    have k6:Kept (fun b=>b≠B) w5 w6:=by rw[<- lS]; exact ZL _ _ _ (fun h=>h rfl)
    have g6:GB w6 B 95 #[.int .i64 6,.int .u64 (S:Int),.int .u64 (C:Int),.slice da co.length dc,.int .u64 0,.int .u64 0]:=by rw[<- lS]; exact HG.o.set 3 _
    have K6:=Zh (qG.o.trans k6);have sH:=yP.o w6 K6.o;have gL:=mH.o w6 K6.o;have d0:=cB gL dJ;have d1:=cB gL dY;have d2:=cB gL dH;have d3:=cB gL dW;have d4:=cB gL dZ;have d5:=cB gL eU;have d6:=cB gL eH;have d7:=cB gL gy;have d8:=cB gL fV;have d9:=cB gL fZ;have d10:=cB gL dz;have d11:=cB gL dE;have d12:=cB gL dA;obtain⟨p0,p1,p2,p3,p4,p5⟩:=g6.k6;have G6:=hd g6;have hSZ:=vJ.o ⟨da,dc,co⟩ w6 sH;clear k6 g6 gL sH vJ qN;go_wp2_with fail;refine hSZ.mono ?_;rintro e w7 ⟨rfl,iZ⟩;have g7:=G6.o.of (iZ.block _ G6.o.lt);obtain⟨w8,hw8⟩:∃ x,w7.setCell (aD B 4) (.int .u64 (Z:Int))=x:=⟨_,rfl⟩
    have g8:GB w8 B 95 #[.int .i64 6,.int .u64 (S:Int),.int .u64 (C:Int),.slice da co.length dc,.int .u64 (Z:Int),.int .u64 0]:=by rw[<- hw8]; exact g7.set 4 _
    have K8:Hid (Kept (fun b=>b≠B) w4 w8):=K6.o.trans ((Zo iZ (fun b hb _=>hb)).trans (by rw[<- hw8]; exact ZL _ _ _ (fun h=>h rfl)));have q4:=g7.at 4;have f4:=g7.frozen 4;obtain⟨r0,r1,r2,r3,r4,r5⟩:=g8.k6;have G8:=hd g8;have wW:=J5.o ⟨da,dc,co⟩ w8 (yP.o w8 K8.o);clear hSZ g7 g8 iZ J5 d0 d1 d2 d3 d4 d5 d6 d7 d8 d9 d10 d11 d12 p0 p1 p2 p3 p4 p5 e0;go_wp2_with fail;refine wW.mono ?_;rintro e w9 ⟨rfl,xI⟩;have g9:=G8.o.of (xI.block _ G8.o.lt);obtain⟨wT,hwT⟩:∃ x,w9.setCell (aD B 5) (.int .u64 (CT:Int))=x:=⟨_,rfl⟩
    have gT:GB wT B 95 #[.int .i64 6,.int .u64 (S:Int),.int .u64 (C:Int),.slice da co.length dc,.int .u64 (Z:Int),.int .u64 (CT:Int)]:=by rw[<- hwT]; exact g9.set 5 _
    have KT:Kept (fun b=>b≠B) w4 wT:=K8.o.trans ((Zo xI (fun b hb _=>hb)).trans (by rw[<- hwT]; exact ZL _ _ _ (fun h=>h rfl)));have q5:=g9.at 5;have f5:=g9.frozen 5;obtain⟨t0,t1,t2,t3,t4,t5⟩:=gT.k6;have BX:GB w3 w2.heap.size 95 #[.int .i64 0,.int .u64 0,.int .u64 0,.slice none 0 0,.int .u64 0,.int .u64 0]:=qp.o;have gR:=BX.of ((mH.o wT KT).block _ BX.lt);have x0:=gR.at 0;have y0:=gR.frozen 0;have x1:=gR.at 1;have y1:=gR.frozen 1;have x2:=gR.at 2;have y2:=gR.frozen 2;have x3:=gR.at 3;have y3:=gR.frozen 3;have x4:=gR.at 4;have y4:=gR.frozen 4;have x5:=gR.at 5;have y5:=gR.frozen 5;have zi:Bw w (World.eG wT w2.heap.size (.int .i64 6) (.int .u64 (S:Int)) (.int .u64 (C:Int)) (.slice da co.length dc) (.int .u64 (Z:Int)) (.int .u64 (CT:Int))):=(yP.o wT KT).trans ((World.kP _ _ _ _ _ _ _ _).below (yP.o wT KT).size (fun b hb=>by have:=TW.o; omega));have ui:=Zh (qd (World.qM gR (.int .i64 6) (.int .u64 (S:Int)) (.int .u64 (C:Int)) (.slice da co.length dc) (.int .u64 (Z:Int)) (.int .u64 (CT:Int))));have gz:=Zh (V4.o ⟨da,dc,co⟩ (World.eG wT w2.heap.size (.int .i64 6) (.int .u64 (S:Int)) (.int .u64 (C:Int)) (.slice da co.length dc) (.int .u64 (Z:Int)) (.int .u64 (CT:Int))) (Qv zi nG.o) (HCAP.o) (rfl) (.inl rfl) zi);unfold World.eG at ui gz;clear wW g9 gT KT BX gR zi xI V4 r0 r1 r2 r3 r4 r5;go_wp2;exact XE (jN (p:=6) rfl rfl ui.o) rfl gz.o
   by_cases k25:2<=kind/\kind<=5
   ·obtain⟨⟨pb,po,rfl,-,-,-,c3,-,-⟩,hok⟩:=HP.o.2 0 (HL2.o k25);rw[QP,Zf]at c3;have hlen:=HL2.o k25;obtain⟨⟨oa,l7,ox⟩,si⟩:∃ o,o=(ps.getD 0 aT).order:=⟨_,rfl⟩
    have hok:ah.At ⟨oa,l7,ox⟩ w/\ox.length<=l7:=by
     have h1:=hok.order;have h2:=hok.cap;rw[<- si]at h1 h2;exact⟨h1,h2⟩
    have J6:=Zh si;rw[<- si]at c3;simp only at c3;have c3:=cB (yP.o w5 qG.o) c3;clear si;rcases (by omega:kind=2∨kind=3∨kind=4∨kind=5) with rfl | rfl | rfl | rfl
    ·skip;have e0:=cB (mH.o w5 qG.o) jJ;have b3:=HG.o.at 3;have f3:=HG.o.frozen 3;obtain⟨w6,lS⟩:∃ x,w5.setCell (aD B 3) (.slice oa ox.length l7)=x:=⟨_,rfl⟩
     have k6:Kept (fun b=>b≠B) w5 w6:=by rw[<- lS]; exact ZL _ _ _ (fun h=>h rfl)
     have g6:GB w6 B 95 #[.int .i64 2,.int .u64 (S:Int),.int .u64 (C:Int),.slice oa ox.length l7,.int .u64 0,.int .u64 0]:=by rw[<- lS]; exact HG.o.set 3 _
     have K6:=Zh (qG.o.trans k6);have sH:=yP.o w6 K6.o;have gL:=mH.o w6 K6.o;have d0:=cB gL dJ;have d1:=cB gL dY;have d2:=cB gL dH;have d3:=cB gL dW;have d4:=cB gL dZ;have d5:=cB gL eU;have d6:=cB gL eH;have d7:=cB gL gy;have d8:=cB gL fV;have d9:=cB gL fZ;have d10:=cB gL dz;have d11:=cB gL dE;have d12:=cB gL dA;obtain⟨p0,p1,p2,p3,p4,p5⟩:=g6.k6;have G6:=hd g6;have hSZ:=vJ.o ⟨oa,l7,ox⟩ w6 sH;clear k6 g6 gL sH vJ qN;go_wp2_with fail;refine hSZ.mono ?_;rintro e w7 ⟨rfl,iZ⟩;have g7:=G6.o.of (iZ.block _ G6.o.lt);obtain⟨w8,hw8⟩:∃ x,w7.setCell (aD B 4) (.int .u64 (Z:Int))=x:=⟨_,rfl⟩
     have g8:GB w8 B 95 #[.int .i64 2,.int .u64 (S:Int),.int .u64 (C:Int),.slice oa ox.length l7,.int .u64 (Z:Int),.int .u64 0]:=by rw[<- hw8]; exact g7.set 4 _
     have K8:Hid (Kept (fun b=>b≠B) w4 w8):=K6.o.trans ((Zo iZ (fun b hb _=>hb)).trans (by rw[<- hw8]; exact ZL _ _ _ (fun h=>h rfl)));have q4:=g7.at 4;have f4:=g7.frozen 4;obtain⟨r0,r1,r2,r3,r4,r5⟩:=g8.k6;have G8:=hd g8;have wW:=J5.o ⟨oa,l7,ox⟩ w8 (yP.o w8 K8.o);clear hSZ g7 g8 iZ J5 d0 d1 d2 d3 d4 d5 d6 d7 d8 d9 d10 d11 d12 p0 p1 p2 p3 p4 p5 e0;go_wp2_with fail;refine wW.mono ?_;rintro e w9 ⟨rfl,xI⟩;have g9:=G8.o.of (xI.block _ G8.o.lt);obtain⟨wT,hwT⟩:∃ x,w9.setCell (aD B 5) (.int .u64 (CT:Int))=x:=⟨_,rfl⟩
     have gT:GB wT B 95 #[.int .i64 2,.int .u64 (S:Int),.int .u64 (C:Int),.slice oa ox.length l7,.int .u64 (Z:Int),.int .u64 (CT:Int)]:=by rw[<- hwT]; exact g9.set 5 _
     have KT:Kept (fun b=>b≠B) w4 wT:=K8.o.trans ((Zo xI (fun b hb _=>hb)).trans (by rw[<- hwT]; exact ZL _ _ _ (fun h=>h rfl)));have q5:=g9.at 5;have f5:=g9.frozen 5;obtain⟨t0,t1,t2,t3,t4,t5⟩:=gT.k6;have BX:GB w3 w2.heap.size 95 #[.int .i64 0,.int .u64 0,.int .u64 0,.slice none 0 0,.int .u64 0,.int .u64 0]:=qp.o;have gR:=BX.of ((mH.o wT KT).block _ BX.lt);have x0:=gR.at 0;have y0:=gR.frozen 0;have x1:=gR.at 1;have y1:=gR.frozen 1;have x2:=gR.at 2;have y2:=gR.frozen 2;have x3:=gR.at 3;have y3:=gR.frozen 3;have x4:=gR.at 4;have y4:=gR.frozen 4;have x5:=gR.at 5;have y5:=gR.frozen 5;have zi:Bw w (World.eG wT w2.heap.size (.int .i64 2) (.int .u64 (S:Int)) (.int .u64 (C:Int)) (.slice oa ox.length l7) (.int .u64 (Z:Int)) (.int .u64 (CT:Int))):=(yP.o wT KT).trans ((World.kP _ _ _ _ _ _ _ _).below (yP.o wT KT).size (fun b hb=>by have:=TW.o; omega));have ui:=Zh (qd (World.qM gR (.int .i64 2) (.int .u64 (S:Int)) (.int .u64 (C:Int)) (.slice oa ox.length l7) (.int .u64 (Z:Int)) (.int .u64 (CT:Int))));have gz:=Zh (V4.o ⟨oa,l7,ox⟩ (World.eG wT w2.heap.size (.int .i64 2) (.int .u64 (S:Int)) (.int .u64 (C:Int)) (.slice oa ox.length l7) (.int .u64 (Z:Int)) (.int .u64 (CT:Int))) (Qv zi hok.1) (hok.2) (by rw[Qz (by decide),Qy (by decide)]; exact congrArg ah.xs J6.o) (.inr (.inl J6.o)) zi);unfold World.eG at ui gz;clear wW g9 gT KT BX gR zi xI V4 r0 r1 r2 r3 r4 r5;go_wp2;exact XE (jN (p:=6) rfl rfl ui.o) rfl gz.o
    ·skip;have e0:=cB (mH.o w5 qG.o) jJ;have b3:=HG.o.at 3;have f3:=HG.o.frozen 3;obtain⟨w6,lS⟩:∃ x,w5.setCell (aD B 3) (.slice oa ox.length l7)=x:=⟨_,rfl⟩
     have k6:Kept (fun b=>b≠B) w5 w6:=by rw[<- lS]; exact ZL _ _ _ (fun h=>h rfl)
     have g6:GB w6 B 95 #[.int .i64 3,.int .u64 (S:Int),.int .u64 (C:Int),.slice oa ox.length l7,.int .u64 0,.int .u64 0]:=by rw[<- lS]; exact HG.o.set 3 _
     have K6:=Zh (qG.o.trans k6);have sH:=yP.o w6 K6.o;have gL:=mH.o w6 K6.o;have d0:=cB gL dJ;have d1:=cB gL dY;have d2:=cB gL dH;have d3:=cB gL dW;have d4:=cB gL dZ;have d5:=cB gL eU;have d6:=cB gL eH;have d7:=cB gL gy;have d8:=cB gL fV;have d9:=cB gL fZ;have d10:=cB gL dz;have d11:=cB gL dE;have d12:=cB gL dA;obtain⟨p0,p1,p2,p3,p4,p5⟩:=g6.k6;have G6:=hd g6;have hSZ:=vJ.o ⟨oa,l7,ox⟩ w6 sH;clear k6 g6 gL sH vJ qN;go_wp2_with fail;refine hSZ.mono ?_;rintro e w7 ⟨rfl,iZ⟩;have g7:=G6.o.of (iZ.block _ G6.o.lt);obtain⟨w8,hw8⟩:∃ x,w7.setCell (aD B 4) (.int .u64 (Z:Int))=x:=⟨_,rfl⟩
     have g8:GB w8 B 95 #[.int .i64 3,.int .u64 (S:Int),.int .u64 (C:Int),.slice oa ox.length l7,.int .u64 (Z:Int),.int .u64 0]:=by rw[<- hw8]; exact g7.set 4 _
     have K8:Hid (Kept (fun b=>b≠B) w4 w8):=K6.o.trans ((Zo iZ (fun b hb _=>hb)).trans (by rw[<- hw8]; exact ZL _ _ _ (fun h=>h rfl)));have q4:=g7.at 4;have f4:=g7.frozen 4;obtain⟨r0,r1,r2,r3,r4,r5⟩:=g8.k6;have G8:=hd g8;have wW:=J5.o ⟨oa,l7,ox⟩ w8 (yP.o w8 K8.o);clear hSZ g7 g8 iZ J5 d0 d1 d2 d3 d4 d5 d6 d7 d8 d9 d10 d11 d12 p0 p1 p2 p3 p4 p5 e0;go_wp2_with fail;refine wW.mono ?_;rintro e w9 ⟨rfl,xI⟩;have g9:=G8.o.of (xI.block _ G8.o.lt);obtain⟨wT,hwT⟩:∃ x,w9.setCell (aD B 5) (.int .u64 (CT:Int))=x:=⟨_,rfl⟩
     have gT:GB wT B 95 #[.int .i64 3,.int .u64 (S:Int),.int .u64 (C:Int),.slice oa ox.length l7,.int .u64 (Z:Int),.int .u64 (CT:Int)]:=by rw[<- hwT]; exact g9.set 5 _
     have KT:Kept (fun b=>b≠B) w4 wT:=K8.o.trans ((Zo xI (fun b hb _=>hb)).trans (by rw[<- hwT]; exact ZL _ _ _ (fun h=>h rfl)));have q5:=g9.at 5;have f5:=g9.frozen 5;obtain⟨t0,t1,t2,t3,t4,t5⟩:=gT.k6;have BX:GB w3 w2.heap.size 95 #[.int .i64 0,.int .u64 0,.int .u64 0,.slice none 0 0,.int .u64 0,.int .u64 0]:=qp.o;have gR:=BX.of ((mH.o wT KT).block _ BX.lt);have x0:=gR.at 0;have y0:=gR.frozen 0;have x1:=gR.at 1;have y1:=gR.frozen 1;have x2:=gR.at 2;have y2:=gR.frozen 2;have x3:=gR.at 3;have y3:=gR.frozen 3;have x4:=gR.at 4;have y4:=gR.frozen 4;have x5:=gR.at 5;have y5:=gR.frozen 5;have zi:Bw w (World.eG wT w2.heap.size (.int .i64 3) (.int .u64 (S:Int)) (.int .u64 (C:Int)) (.slice oa ox.length l7) (.int .u64 (Z:Int)) (.int .u64 (CT:Int))):=(yP.o wT KT).trans ((World.kP _ _ _ _ _ _ _ _).below (yP.o wT KT).size (fun b hb=>by have:=TW.o; omega));have ui:=Zh (qd (World.qM gR (.int .i64 3) (.int .u64 (S:Int)) (.int .u64 (C:Int)) (.slice oa ox.length l7) (.int .u64 (Z:Int)) (.int .u64 (CT:Int))));have gz:=Zh (V4.o ⟨oa,l7,ox⟩ (World.eG wT w2.heap.size (.int .i64 3) (.int .u64 (S:Int)) (.int .u64 (C:Int)) (.slice oa ox.length l7) (.int .u64 (Z:Int)) (.int .u64 (CT:Int))) (Qv zi hok.1) (hok.2) (by rw[Qz (by decide),Qy (by decide)]; exact congrArg ah.xs J6.o) (.inr (.inl J6.o)) zi);unfold World.eG at ui gz;clear wW g9 gT KT BX gR zi xI V4 r0 r1 r2 r3 r4 r5;go_wp2;exact XE (jN (p:=6) rfl rfl ui.o) rfl gz.o
    ·skip;have e0:=cB (mH.o w5 qG.o) jJ;have b3:=HG.o.at 3;have f3:=HG.o.frozen 3;obtain⟨w6,lS⟩:∃ x,w5.setCell (aD B 3) (.slice oa ox.length l7)=x:=⟨_,rfl⟩
     have k6:Kept (fun b=>b≠B) w5 w6:=by rw[<- lS]; exact ZL _ _ _ (fun h=>h rfl)
     have g6:GB w6 B 95 #[.int .i64 4,.int .u64 (S:Int),.int .u64 (C:Int),.slice oa ox.length l7,.int .u64 0,.int .u64 0]:=by rw[<- lS]; exact HG.o.set 3 _
     have K6:=Zh (qG.o.trans k6);have sH:=yP.o w6 K6.o;have gL:=mH.o w6 K6.o;have d0:=cB gL dJ;have d1:=cB gL dY;have d2:=cB gL dH;have d3:=cB gL dW;have d4:=cB gL dZ;have d5:=cB gL eU;have d6:=cB gL eH;have d7:=cB gL gy;have d8:=cB gL fV;have d9:=cB gL fZ;have d10:=cB gL dz;have d11:=cB gL dE;have d12:=cB gL dA;obtain⟨p0,p1,p2,p3,p4,p5⟩:=g6.k6;have G6:=hd g6;have hSZ:=vJ.o ⟨oa,l7,ox⟩ w6 sH;clear k6 g6 gL sH vJ qN;go_wp2_with fail;refine hSZ.mono ?_;rintro e w7 ⟨rfl,iZ⟩;have g7:=G6.o.of (iZ.block _ G6.o.lt);obtain⟨w8,hw8⟩:∃ x,w7.setCell (aD B 4) (.int .u64 (Z:Int))=x:=⟨_,rfl⟩
     have g8:GB w8 B 95 #[.int .i64 4,.int .u64 (S:Int),.int .u64 (C:Int),.slice oa ox.length l7,.int .u64 (Z:Int),.int .u64 0]:=by rw[<- hw8]; exact g7.set 4 _
     have K8:Hid (Kept (fun b=>b≠B) w4 w8):=K6.o.trans ((Zo iZ (fun b hb _=>hb)).trans (by rw[<- hw8]; exact ZL _ _ _ (fun h=>h rfl)));have q4:=g7.at 4;have f4:=g7.frozen 4;obtain⟨r0,r1,r2,r3,r4,r5⟩:=g8.k6;have G8:=hd g8;have wW:=J5.o ⟨oa,l7,ox⟩ w8 (yP.o w8 K8.o);clear hSZ g7 g8 iZ J5 d0 d1 d2 d3 d4 d5 d6 d7 d8 d9 d10 d11 d12 p0 p1 p2 p3 p4 p5 e0;go_wp2_with fail;refine wW.mono ?_;rintro e w9 ⟨rfl,xI⟩;have g9:=G8.o.of (xI.block _ G8.o.lt);obtain⟨wT,hwT⟩:∃ x,w9.setCell (aD B 5) (.int .u64 (CT:Int))=x:=⟨_,rfl⟩
     have gT:GB wT B 95 #[.int .i64 4,.int .u64 (S:Int),.int .u64 (C:Int),.slice oa ox.length l7,.int .u64 (Z:Int),.int .u64 (CT:Int)]:=by rw[<- hwT]; exact g9.set 5 _
     have KT:Kept (fun b=>b≠B) w4 wT:=K8.o.trans ((Zo xI (fun b hb _=>hb)).trans (by rw[<- hwT]; exact ZL _ _ _ (fun h=>h rfl)));have q5:=g9.at 5;have f5:=g9.frozen 5;obtain⟨t0,t1,t2,t3,t4,t5⟩:=gT.k6;have BX:GB w3 w2.heap.size 95 #[.int .i64 0,.int .u64 0,.int .u64 0,.slice none 0 0,.int .u64 0,.int .u64 0]:=qp.o;have gR:=BX.of ((mH.o wT KT).block _ BX.lt);have x0:=gR.at 0;have y0:=gR.frozen 0;have x1:=gR.at 1;have y1:=gR.frozen 1;have x2:=gR.at 2;have y2:=gR.frozen 2;have x3:=gR.at 3;have y3:=gR.frozen 3;have x4:=gR.at 4;have y4:=gR.frozen 4;have x5:=gR.at 5;have y5:=gR.frozen 5;have zi:Bw w (World.eG wT w2.heap.size (.int .i64 4) (.int .u64 (S:Int)) (.int .u64 (C:Int)) (.slice oa ox.length l7) (.int .u64 (Z:Int)) (.int .u64 (CT:Int))):=(yP.o wT KT).trans ((World.kP _ _ _ _ _ _ _ _).below (yP.o wT KT).size (fun b hb=>by have:=TW.o; omega));have ui:=Zh (qd (World.qM gR (.int .i64 4) (.int .u64 (S:Int)) (.int .u64 (C:Int)) (.slice oa ox.length l7) (.int .u64 (Z:Int)) (.int .u64 (CT:Int))));have gz:=Zh (V4.o ⟨oa,l7,ox⟩ (World.eG wT w2.heap.size (.int .i64 4) (.int .u64 (S:Int)) (.int .u64 (C:Int)) (.slice oa ox.length l7) (.int .u64 (Z:Int)) (.int .u64 (CT:Int))) (Qv zi hok.1) (hok.2) (by rw[Qz (by decide),Qy (by decide)]; exact congrArg ah.xs J6.o) (.inr (.inl J6.o)) zi);unfold World.eG at ui gz;clear wW g9 gT KT BX gR zi xI V4 r0 r1 r2 r3 r4 r5;go_wp2;exact XE (jN (p:=6) rfl rfl ui.o) rfl gz.o
    ·skip;have e0:=cB (mH.o w5 qG.o) jJ;have b3:=HG.o.at 3;have f3:=HG.o.frozen 3;obtain⟨w6,lS⟩:∃ x,w5.setCell (aD B 3) (.slice oa ox.length l7)=x:=⟨_,rfl⟩
     have k6:Kept (fun b=>b≠B) w5 w6:=by rw[<- lS]; exact ZL _ _ _ (fun h=>h rfl)
     have g6:GB w6 B 95 #[.int .i64 5,.int .u64 (S:Int),.int .u64 (C:Int),.slice oa ox.length l7,.int .u64 0,.int .u64 0]:=by rw[<- lS]; exact HG.o.set 3 _
     have K6:=Zh (qG.o.trans k6);have sH:=yP.o w6 K6.o;have gL:=mH.o w6 K6.o;have d0:=cB gL dJ;have d1:=cB gL dY;have d2:=cB gL dH;have d3:=cB gL dW;have d4:=cB gL dZ;have d5:=cB gL eU;have d6:=cB gL eH;have d7:=cB gL gy;have d8:=cB gL fV;have d9:=cB gL fZ;have d10:=cB gL dz;have d11:=cB gL dE;have d12:=cB gL dA;obtain⟨p0,p1,p2,p3,p4,p5⟩:=g6.k6;have G6:=hd g6;have hSZ:=vJ.o ⟨oa,l7,ox⟩ w6 sH;clear k6 g6 gL sH vJ qN;go_wp2_with fail;refine hSZ.mono ?_;rintro e w7 ⟨rfl,iZ⟩;have g7:=G6.o.of (iZ.block _ G6.o.lt);obtain⟨w8,hw8⟩:∃ x,w7.setCell (aD B 4) (.int .u64 (Z:Int))=x:=⟨_,rfl⟩
     have g8:GB w8 B 95 #[.int .i64 5,.int .u64 (S:Int),.int .u64 (C:Int),.slice oa ox.length l7,.int .u64 (Z:Int),.int .u64 0]:=by rw[<- hw8]; exact g7.set 4 _
     have K8:Hid (Kept (fun b=>b≠B) w4 w8):=K6.o.trans ((Zo iZ (fun b hb _=>hb)).trans (by rw[<- hw8]; exact ZL _ _ _ (fun h=>h rfl)));have q4:=g7.at 4;have f4:=g7.frozen 4;obtain⟨r0,r1,r2,r3,r4,r5⟩:=g8.k6;have G8:=hd g8;have wW:=J5.o ⟨oa,l7,ox⟩ w8 (yP.o w8 K8.o);clear hSZ g7 g8 iZ J5 d0 d1 d2 d3 d4 d5 d6 d7 d8 d9 d10 d11 d12 p0 p1 p2 p3 p4 p5 e0;go_wp2_with fail;refine wW.mono ?_;rintro e w9 ⟨rfl,xI⟩;have g9:=G8.o.of (xI.block _ G8.o.lt);obtain⟨wT,hwT⟩:∃ x,w9.setCell (aD B 5) (.int .u64 (CT:Int))=x:=⟨_,rfl⟩
     have gT:GB wT B 95 #[.int .i64 5,.int .u64 (S:Int),.int .u64 (C:Int),.slice oa ox.length l7,.int .u64 (Z:Int),.int .u64 (CT:Int)]:=by rw[<- hwT]; exact g9.set 5 _
     have KT:Kept (fun b=>b≠B) w4 wT:=K8.o.trans ((Zo xI (fun b hb _=>hb)).trans (by rw[<- hwT]; exact ZL _ _ _ (fun h=>h rfl)));have q5:=g9.at 5;have f5:=g9.frozen 5;obtain⟨t0,t1,t2,t3,t4,t5⟩:=gT.k6;have BX:GB w3 w2.heap.size 95 #[.int .i64 0,.int .u64 0,.int .u64 0,.slice none 0 0,.int .u64 0,.int .u64 0]:=qp.o;have gR:=BX.of ((mH.o wT KT).block _ BX.lt);have x0:=gR.at 0;have y0:=gR.frozen 0;have x1:=gR.at 1;have y1:=gR.frozen 1;have x2:=gR.at 2;have y2:=gR.frozen 2;have x3:=gR.at 3;have y3:=gR.frozen 3;have x4:=gR.at 4;have y4:=gR.frozen 4;have x5:=gR.at 5;have y5:=gR.frozen 5;have zi:Bw w (World.eG wT w2.heap.size (.int .i64 5) (.int .u64 (S:Int)) (.int .u64 (C:Int)) (.slice oa ox.length l7) (.int .u64 (Z:Int)) (.int .u64 (CT:Int))):=(yP.o wT KT).trans ((World.kP _ _ _ _ _ _ _ _).below (yP.o wT KT).size (fun b hb=>by have:=TW.o; omega));have ui:=Zh (qd (World.qM gR (.int .i64 5) (.int .u64 (S:Int)) (.int .u64 (C:Int)) (.slice oa ox.length l7) (.int .u64 (Z:Int)) (.int .u64 (CT:Int))));have gz:=Zh (V4.o ⟨oa,l7,ox⟩ (World.eG wT w2.heap.size (.int .i64 5) (.int .u64 (S:Int)) (.int .u64 (C:Int)) (.slice oa ox.length l7) (.int .u64 (Z:Int)) (.int .u64 (CT:Int))) (Qv zi hok.1) (hok.2) (by rw[Qz (by decide),Qy (by decide)]; exact congrArg ah.xs J6.o) (.inr (.inl J6.o)) zi);unfold World.eG at ui gz;clear wW g9 gT KT BX gR zi xI V4 r0 r1 r2 r3 r4 r5;go_wp2;exact XE (jN (p:=6) rfl rfl ui.o) rfl gz.o
   have j2:(kind==2)=false:=by rw[Xr]; omega
   have j3:(kind==3)=false:=by rw[Xr]; omega
   have j4:(kind==4)=false:=by rw[Xr]; omega
   have j5:(kind==5)=false:=by rw[Xr]; omega
   have j6:(kind==6)=false:=by rw[Xr]; omega
   have K25:Hid _:=k25;have K6n:Hid _:=k6;clear k25 k6;have e0:=cB (mH.o w5 qG.o) jJ;obtain⟨w6,lS⟩:∃ x,x=w5:=⟨_,rfl⟩
   subst lS;have k6:Kept (fun b=>b≠B) w6 w6:=Zn _ _;have g6:=HG.o;have K6:=Zh (qG.o.trans k6);have sH:=yP.o w6 K6.o;have gL:=mH.o w6 K6.o;have d0:=cB gL dJ;have d1:=cB gL dY;have d2:=cB gL dH;have d3:=cB gL dW;have d4:=cB gL dZ;have d5:=cB gL eU;have d6:=cB gL eH;have d7:=cB gL gy;have d8:=cB gL fV;have d9:=cB gL fZ;have d10:=cB gL dz;have d11:=cB gL dE;have d12:=cB gL dA;obtain⟨p0,p1,p2,p3,p4,p5⟩:=g6.k6;have G6:=hd g6;have hSZ:=vJ.o ⟨none,0,[]⟩ w6 sH;clear k6 g6 gL sH vJ qN;go_wp2_with fail;refine hSZ.mono ?_;rintro e w7 ⟨rfl,iZ⟩;have g7:=G6.o.of (iZ.block _ G6.o.lt);obtain⟨w8,hw8⟩:∃ x,w7.setCell (aD B 4) (.int .u64 (Z:Int))=x:=⟨_,rfl⟩
   have g8:GB w8 B 95 #[.int .i64 kind,.int .u64 (S:Int),.int .u64 (C:Int),.slice none 0 0,.int .u64 (Z:Int),.int .u64 0]:=by rw[<- hw8]; exact g7.set 4 _
   have K8:Hid (Kept (fun b=>b≠B) w4 w8):=K6.o.trans ((Zo iZ (fun b hb _=>hb)).trans (by rw[<- hw8]; exact ZL _ _ _ (fun h=>h rfl)));have q4:=g7.at 4;have f4:=g7.frozen 4;obtain⟨r0,r1,r2,r3,r4,r5⟩:=g8.k6;have G8:=hd g8;have wW:=J5.o ⟨none,0,[]⟩ w8 (yP.o w8 K8.o);clear hSZ g7 g8 iZ J5 d0 d1 d2 d3 d4 d5 d6 d7 d8 d9 d10 d11 d12 p0 p1 p2 p3 p4 p5 e0;go_wp2_with fail;refine wW.mono ?_;rintro e w9 ⟨rfl,xI⟩;have g9:=G8.o.of (xI.block _ G8.o.lt);obtain⟨wT,hwT⟩:∃ x,w9.setCell (aD B 5) (.int .u64 (CT:Int))=x:=⟨_,rfl⟩
   have gT:GB wT B 95 #[.int .i64 kind,.int .u64 (S:Int),.int .u64 (C:Int),.slice none 0 0,.int .u64 (Z:Int),.int .u64 (CT:Int)]:=by rw[<- hwT]; exact g9.set 5 _
   have KT:Kept (fun b=>b≠B) w4 wT:=K8.o.trans ((Zo xI (fun b hb _=>hb)).trans (by rw[<- hwT]; exact ZL _ _ _ (fun h=>h rfl)));have q5:=g9.at 5;have f5:=g9.frozen 5;obtain⟨t0,t1,t2,t3,t4,t5⟩:=gT.k6;have BX:GB w3 w2.heap.size 95 #[.int .i64 0,.int .u64 0,.int .u64 0,.slice none 0 0,.int .u64 0,.int .u64 0]:=qp.o;have gR:=BX.of ((mH.o wT KT).block _ BX.lt);have x0:=gR.at 0;have y0:=gR.frozen 0;have x1:=gR.at 1;have y1:=gR.frozen 1;have x2:=gR.at 2;have y2:=gR.frozen 2;have x3:=gR.at 3;have y3:=gR.frozen 3;have x4:=gR.at 4;have y4:=gR.frozen 4;have x5:=gR.at 5;have y5:=gR.frozen 5;have zi:Bw w (World.eG wT w2.heap.size (.int .i64 kind) (.int .u64 (S:Int)) (.int .u64 (C:Int)) (.slice none 0 0) (.int .u64 (Z:Int)) (.int .u64 (CT:Int))):=(yP.o wT KT).trans ((World.kP _ _ _ _ _ _ _ _).below (yP.o wT KT).size (fun b hb=>by have:=TW.o; omega));have ui:=Zh (qd (World.qM gR (.int .i64 kind) (.int .u64 (S:Int)) (.int .u64 (C:Int)) (.slice none 0 0) (.int .u64 (Z:Int)) (.int .u64 (CT:Int))));have gz:=Zh (V4.o ⟨none,0,[]⟩ (World.eG wT w2.heap.size (.int .i64 kind) (.int .u64 (S:Int)) (.int .u64 (C:Int)) (.slice none 0 0) (.int .u64 (Z:Int)) (.int .u64 (CT:Int))) (⟨by simp,fun i hi=>absurd hi (by simp)⟩) (Qx _) (by rw[Qz K6n.o,Qz K25.o]) (.inr (.inr rfl)) zi);unfold World.eG at ui gz;clear wW g9 gT KT BX gR zi xI V4 r0 r1 r2 r3 r4 r5;go_wp2;exact XE (jN (p:=6) rfl rfl ui.o) rfl gz.o
def XD:=@World.kP
