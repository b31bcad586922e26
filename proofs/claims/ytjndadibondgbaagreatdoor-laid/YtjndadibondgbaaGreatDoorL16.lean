import Derived.Test.YtjndadibondgbaaGreatDoorL15
set_option linter.all false
set_option maxRecDepth 100000
set_option maxHeartbeats 16000000
namespace Go.Proofs.Zz
open Go.RowKit Go.Shelf
variable {W:World} {B:Nat}
def Px(a:Nat)(g:Nat->Nat):Nat->Nat
 | 0 => a
 | k+1 => Px a g k|||g k
theorem Fe{a:Nat}{g:Nat->Nat}{n:Nat}(ha:a<2 ^ n):∀ k,(∀ i,i<k->g i<2 ^ n)->Px a g k<2 ^ n
 | 0,_ => ha
 | k+1,h => Nat.or_lt_two_pow (Fe ha k (fun i hi => h i (by omega))) (h k (by omega))
theorem JV(a:Nat)(g:Nat->Nat){k:Nat}(hk:k<=2)(h:∀ i,k<=i->g i=0):Px a g k=a|||g 0|||g 1:=by
 rcases (by omega:k=0∨k=1∨k=2) with rfl | rfl | rfl
 ·rw[h 0 (by omega),h 1 (by omega),Nat.or_zero,Nat.or_zero]; rfl
 ·rw[h 1 (by omega),Nat.or_zero]; rfl
 ·rfl
def World.nY(W:World)(B:Nat)(v0 v1 v2 v3 v4 v5:Value):World:=
 (((((W.setCell (aD B 0) v0).setCell (aD B 1) v1).setCell (aD B 2) v2).setCell (aD B 3) v3).setCell (aD B 4) v4).setCell (aD B 5) v5
theorem World.sI{t:TypeId}{a0 a1 a2 a3 a4 a5:Value}(h:GB W B t #[a0,a1,a2,a3,a4,a5])(v0 v1 v2 v3 v4 v5:Value):GB (World.nY W B v0 v1 v2 v3 v4 v5) B t #[v0,v1,v2,v3,v4,v5]:=
 (((((h.set 0 v0).set 1 v1).set 2 v2).set 3 v3).set 4 v4).set 5 v5
theorem World.kN(W:World)(B:Nat)(v0 v1 v2 v3 v4 v5:Value):Kept (fun x=>x≠B) W (World.nY W B v0 v1 v2 v3 v4 v5):=by
 unfold World.nY;exact(((((Zn _ (aD B 0) _ (fun h=>h rfl)).trans (Zn _ (aD B 1) _ (fun h=>h rfl))).trans (Zn _ (aD B 2) _ (fun h=>h rfl))).trans (Zn _ (aD B 3) _ (fun h=>h rfl))).trans (Zn _ (aD B 4) _ (fun h=>h rfl))).trans (Zn _ (aD B 5) _ (fun h=>h rfl))
theorem qZ{v0 v1 v2 v3 v4 v5:Value}(h:GB W B 75 #[v0,v1,v2,v3,v4,v5]):(loadVar 75 (aD B 0)).run Tryz.prog W=.ok (.agg #[v0,v1,v2,v3,v4,v5]) W:=by
 obtain⟨a,b,d,e,f,g⟩:=h.k6;simp[go_sem,a,b,d,e,f,g]
theorem UE(f:aS)(ts:List af)(q:ae)(n:ah)(ao:Option Addr)(cap:Nat)(ps:List aB)(w:World)(ok:Ok ts q)(hf:f.At ts q w)(hcl:n.cl.At w)(hco:n.co.At w)(hcap:n.co.xs.length<=n.co.cap)(hp:PartsAt w ao ps)(hk1:1<=n.kind)(hk10:n.kind<=10)
  (hl:ps.length=arity n.kind) (hsm:aP q.wh.length n.cl.xs) (xS:n.kind=1->0<=n.source/\n.source<q.src.xs.length) (hps:∀ i,i<ps.length->(ps.getD i aT).sources<2 ^ q.src.xs.length/\(ps.getD i aT).clauses<2 ^ q.wh.length) :
  Calls Tryz.prog 61 #[.agg (f.cells ts q),.agg n.cells,.slice ao ps.length cap] w fun e w'=>∃ p:aB,e=.returned (.agg p.cells)/\p.d=iB ts q n (ps.getD 0 aT).d (ps.getD 1 aT).d/\p.Ok w'/\p.sources<2 ^ q.src.xs.length/\p.clauses<2 ^ q.wh.length/\(p.order=n.co∨p.order=(ps.getD 0 aT).order∨p.order=⟨none,0,[]⟩)/\Bw w w':=by
 have dB:arity n.kind<=2:=by unfold arity; split <;> (try split) <;> omega
 have dV:=hp.1;have aQ:∀ i,ps.length<=i->ps.getD i aT=aT:=fun i hi=>by simp[List.getD,hi]
 obtain⟨ow,aJ⟩:∃ ow,ow=(if n.kind=1 then 2 ^ n.source.toNat else 0):=⟨_,rfl⟩
 have VA:=ok.small;have VB:=ok.oM;have bJ:ow<2 ^ q.src.xs.length:=by
  rw[aJ];split
  ·rename_i h
   have:=xS h;exact Jg (by omega) (by omega)
  ·exact Nat.two_pow_pos _
 obtain⟨sc,aK⟩:=eY (aL n.cl.xs)
 have bK:sc<2 ^ q.wh.length:=by rw[aK]; exact Ke hsm
 obtain⟨SK,az⟩:=eY (Px ow (fun i=>(ps.getD i aT).sources))
 obtain⟨CK,aA⟩:=eY (Px sc (fun i=>(ps.getD i aT).clauses))
 have bL:Hid (SK 0=ow):=by show _=_; rw[az]; rfl
 have bM:Hid (CK 0=sc):=by show _=_; rw[aA]; rfl
 have bP:Hid (∀ k,SK (k+1)=SK k|||(ps.getD k aT).sources):=fun k=>by rw[az]; rfl
 have CP:Hid (∀ k,CK (k+1)=CK k|||(ps.getD k aT).clauses):=fun k=>by rw[aA]; rfl
 have Ev:Hid (∀ k,k<=ps.length->SK k<2 ^ q.src.xs.length):=fun k hk=>by rw[az]; exact Fe bJ k (fun i hi=>(hps i (by omega)).1)
 have uz:Hid (∀ k,k<=ps.length->CK k<2 ^ q.wh.length):=fun k hk=>by rw[aA]; exact Fe bK k (fun i hi=>(hps i (by omega)).2)
 have ak:∀ {x m:Nat},m<=64->x<2 ^ m->x<18446744073709551616:=fun hm hx=>QT hx (Z7 (n:=2) (by omega) hm)
 have aO:∀ {x:Nat},x<18446744073709551616->x<=bB:=fun h=>by unfold bB; omega
 have BA:Hid (SK ps.length=ow|||(ps.getD 0 aT).sources|||(ps.getD 1 aT).sources):=by show _=_; rw[az]; exact JV _ _ (by omega) (fun i hi=>by rw[aQ i hi]; rfl)
 have bR:Hid (CK ps.length=sc|||(ps.getD 0 aT).clauses|||(ps.getD 1 aT).clauses):=by show _=_; rw[aA]; exact JV _ _ (by omega) (fun i hi=>by rw[aQ i hi]; rfl)
 have bS:Hid (∀ (o:List Int) (z:Nat),o=(if n.kind=6 then n.co.xs else if 2<=n.kind/\n.kind<=5 then (ps.getD 0 aT).order.xs else [])->z=(if dO n.kind=true then (ps.getD 0 aT).size else jS ts q (SK ps.length) (CK ps.length))->
   bZ.mk n.kind (SK ps.length) (CK ps.length) o z (fU n.kind z (ps.getD 0 aT).cost (ps.getD 0 aT).size (ps.getD 1 aT).cost (ps.getD 1 aT).size)=iB ts q n (ps.getD 0 aT).d (ps.getD 1 aT).d):=fun o z ho hz=>by
  unfold iB;rw[ho,hz,BA.o,bR.o,aJ,aK];rfl
 have aW:Hid (∀ x,Cb 97 #[.agg n.cells] x (.int .u64 ((ow:Nat):Int))):=fun x=>by rw[aJ]; exact Fb n x (fun h=>⟨(xS h).1,by have:=(xS h).2; omega⟩)
 have aF:Hid (∀ x,Bw w x->Ce 98 #[n.cl.val] x (.int .u64 ((sc:Nat):Int))):=fun x hx=>by rw[aK]; exact I1 n.cl.ad n.cl.cap n.cl.xs x (Qt hx hcl) (fun y hy=>⟨(hsm y hy).1,by have:=(hsm y hy).2; omega⟩)
 have aX:Hid (∀ (b x y:Nat) (W:World),W.cell? (aD b 0)=some (.int .u64 (x:Int))->W.cell? (aD b 1)=some (.int .u64 (y:Int))->x<18446744073709551616->y<18446744073709551616->Ce 86 #[.slice (some (aD b 0)) 2 2] W (.int .u64 ((x|||y:Nat):Int))):=fun b x y W h0 h1 hx hy=>vI b x y W h0 h1 hx hy
 have FY:Hid (∀ (o:aa) (x:World),Bw w x->Calls Tryz.prog 99 #[.agg (f.cells ts q),.agg #[.int .i64 n.kind,.int .u64 (SK ps.length:Int),.int .u64 (CK ps.length:Int),o.val,.int .u64 0,.int .u64 0],.slice ao ps.length cap] x fun e w'=>e=.returned (.int .u64 (((if dO n.kind=true then (ps.getD 0 aT).size else jS ts q (SK ps.length) (CK ps.length)):Nat):Int))/\Bw x w'):=fun o x hx=>
  UD f ts q ⟨n.kind,SK ps.length,CK ps.length,o,0,0⟩ ao cap ps x ok (hf.below hx) (hp.below hx) (Ev.o _ (Qs _)) (uz.o _ (Qs _)) (fun h=>by
   have h2:7<=n.kind:=by unfold dO at h; simp at h; omega
   rw[hl]; unfold arity; rw[Qv (by omega),Qv (by omega)]; omega)
 obtain⟨Z,hZ⟩:∃ Z,Z=(if dO n.kind=true then (ps.getD 0 aT).size else jS ts q (SK ps.length) (CK ps.length)):=⟨_,rfl⟩
 have aY:Z<=bB:=by
  rw[hZ];split
  ·rename_i h
   have h2:7<=n.kind:=by unfold dO at h; simp at h; omega
   exact(hp.2 0 (by rw[hl]; unfold arity; rw[Qv (by omega),Qv (by omega)]; omega)).2.size
  ·exact adQ _ _ _ _
 rw[<- hZ]at FY;have T9:Hid (∀ (o:aa) (x:World),Bw w x->Cb 100 #[.agg #[.int .i64 n.kind,.int .u64 (SK ps.length:Int),.int .u64 (CK ps.length:Int),o.val,.int .u64 (Z:Int),.int .u64 0],.slice ao ps.length cap] x (.int .u64 (fU n.kind Z (ps.getD 0 aT).cost (ps.getD 0 aT).size (ps.getD 1 aT).cost (ps.getD 1 aT).size:Nat))):=fun o x hx=>
  Uv ⟨n.kind,SK ps.length,CK ps.length,o,Z,0⟩ ao cap ps x (hp.below hx) aY (fun h=>by have h:n.kind≠1:=h; rw[hl]; unfold arity; rw[Qv h]; split <;> omega) (fun h3 h5=>by have h3:3<=n.kind:=h3; have h5:n.kind<=5:=h5; rw[hl]; unfold arity; rw[Qv (by omega),Qu ⟨h3,h5⟩]; omega)
 have JE:Hid (∀ (o:aa) (W:World),o.At W->o.xs.length<=o.cap->o.xs=(if n.kind=6 then n.co.xs else if 2<=n.kind/\n.kind<=5 then (ps.getD 0 aT).order.xs else [])->(o=n.co∨o=(ps.getD 0 aT).order∨o=⟨none,0,[]⟩)->Bw w W->
   ∃ p:aB,Ending.returned (.agg #[.int .i64 n.kind,.int .u64 (SK ps.length:Int),.int .u64 (CK ps.length:Int),o.val,.int .u64 (Z:Int),.int .u64 ((fU n.kind Z (ps.getD 0 aT).cost (ps.getD 0 aT).size (ps.getD 1 aT).cost (ps.getD 1 aT).size:Nat):Int)])=.returned (.agg p.cells)/\p.d=iB ts q n (ps.getD 0 aT).d (ps.getD 1 aT).d/\p.Ok W/\p.sources<2 ^ q.src.xs.length/\p.clauses<2 ^ q.wh.length/\(p.order=n.co∨p.order=(ps.getD 0 aT).order∨p.order=⟨none,0,[]⟩)/\Bw w W):=fun o W ho dP dR dS u=>
  ⟨⟨n.kind,SK ps.length,CK ps.length,o,Z,fU n.kind Z (ps.getD 0 aT).cost (ps.getD 0 aT).size (ps.getD 1 aT).cost (ps.getD 1 aT).size⟩,rfl,bS.o o.xs Z dR hZ,⟨ho,dP,aO (ak VA (Ev.o _ (Qs _))),aO (ak VB (uz.o _ (Qs _))),aY,adR _ _ _ _ _ _⟩,Ev.o _ (Qs _),uz.o _ (Qs _),dS,u⟩
 have bU:Hid (∀ k,k<=ps.length->SK k<18446744073709551616):=fun k hk=>ak VA (Ev.o k hk)
 have bW:Hid (∀ k,k<=ps.length->CK k<18446744073709551616):=fun k hk=>ak VB (uz.o k hk)
 have bX:Hid (∀ k,k<ps.length->(ps.getD k aT).sources<18446744073709551616/\(ps.getD k aT).clauses<18446744073709551616):=fun k hk=>⟨ak VA (hps k hk).1,ak VB (hps k hk).2⟩
 have bY:Hid (2<=n.kind/\n.kind<=5->0<ps.length):=fun h=>by rw[hl]; unfold arity; rw[Qv (by omega)]; split <;> omega
 generalize fU n.kind Z (ps.getD 0 aT).cost (ps.getD 0 aT).size (ps.getD 1 aT).cost (ps.getD 1 aT).size=CT at *;have HP:Hid _:=hp;have l9:Hid _:=hco;have cu:=Zh hcap;obtain⟨v0,v1,v2,v3,v4,v5,v6,v7,v8,v9,dH,dI,dJ,dQ,-⟩:=Ju f ts q;rw[dQ]at FY ⊢;clear bS Ev uz BA bR hZ aY ak hps xS hsm hl hf hcl hco hcap hp ok aJ aK az aA bJ bK dQ aQ dB VA VB hk1 hk10;obtain⟨kind,nl,nr,src,⟨ca,cc,cl⟩,key,⟨da,dc,co⟩⟩:=n;unfold ah.cells aa.val at *;simp only at *;obtain⟨w1,dK,hk1,bu⟩:=aR w #[v0,v1,v2,v3,v4,v5,v6,v7,v8,v9,dH,dI,dJ] 70;obtain⟨w2,dL,bz,bC⟩:=aR w1 #[.int .i64 kind,.int .i64 nl,.int .i64 nr,.int .i64 src,.slice ca cl.length cc,.int .i64 key,.slice da co.length dc] 36;obtain⟨w3,dM,dm,dn⟩:=aR w2 #[.int .i64 0,.int .u64 0,.int .u64 0,.slice none 0 0,.int .u64 0,.int .u64 0] 75;have bf:=dm;have ax:=aC bz bf;have cz:=aC hk1 ax;have cK:=bu.of (ax.block _ bu.lt);obtain⟨bD,bN,bA,bG,bO,bT,bQ,dF,dD,dE,aU,aZ,aV⟩:=cK.k13;have ig:=bC.of (bf.block _ bC.lt);obtain⟨eT,fK,gy,gV,fM,iG,ik⟩:=ig.k7;have YZ:=dn;have aj:=Zh cz;have tY:Hid _:=YZ;have ay:=Zh (QS hk1.size bz.size);clear hk1 bz dm bu bC dn cK ig YZ cz ax bf;go_enter Tryz.func61,Tryz.ntmps61;go_upto_region 1 with fail;go_cut [7] from 10 to 17 (fun c wx=>∃ B,c=.pointer (some (aD B 0))/\w3.heap.size<=B/\GB wx B 75 #[.int .i64 kind,.int .u64 (ow:Int),.int .u64 (sc:Int),.slice none 0 0,.int .u64 0,.int .u64 0]/\Bw w3 wx)
 case first=>
  refine wH w3 fun F=>?_
  refine wt 0 (.pointer (some (aD w1.heap.size 0))) F ?_;refine nN 1 (.int .i64 kind) F eT ?_;refine wT 2 (.agg #[.int .i64 kind,.int .i64 nl,.int .i64 nr,.int .i64 src,.slice ca cl.length cc,.int .i64 key,.slice da co.length dc]) F (fun x hx=>?_) ?_
  ·have e0:=J7 hx eT fK gy gV fM iG ik;go_simp
  refine wt 4 (.pointer (some (aD w1.heap.size 4))) F ?_;refine nN 5 (.slice ca cl.length cc) F fM ?_;refine wJ 3 8 (fun K G=>?_) fun K G=>?_
  ·skip;go_simp;refine Jj (aW.o _) ?_;rintro e O ⟨rfl,aM⟩;refine oT G F aM fun F=>?_
   clear G K;have ai:=F;refine wJ 6 8 (fun K G=>?_) fun K G=>?_
   ·skip;go_simp;refine Jj (aF.o _ (aj.o.trans (F.mono aj.o.size))) ?_;rintro e wz ⟨rfl,P⟩;have P:=P.symm;subst P;refine G.o _ _ F fun F=>?_
    clear G K;refine wt 7 (.agg #[.int .i64 kind,.int .u64 (ow:Int),.int .u64 (sc:Int),.slice none 0 0,.int .u64 0,.int .u64 0]) F ?_;refine wR 8 fun K G=>?_
    go_simp;refine oA G F fun F=>?_
    clear G K;refine wR 9 fun K G=>?_
    go_simp;refine G.o _ _ (ai.trans ((bV _ _).mono ai.size)) (fun F=>?_);clear G K;refine wD ?_
    try simp only[pU]
    go_wp2_with fail;go_meet;exact⟨O.heap.size,rfl,ai.size,lZ O _,F⟩
   ·skip;go_simp;refine oA G F fun F=>?_
    clear G K;refine wR 6 fun K G=>?_
    go_simp;refine Jj (aF.o _ (aj.o.trans (F.mono aj.o.size))) ?_;rintro e wz ⟨rfl,P⟩;have P:=P.symm;subst P;refine G.o _ _ F fun F=>?_
    clear G K;refine wt 7 (.agg #[.int .i64 kind,.int .u64 (ow:Int),.int .u64 (sc:Int),.slice none 0 0,.int .u64 0,.int .u64 0]) F ?_;refine wR 9 fun K G=>?_
    go_simp;refine G.o _ _ (ai.trans ((bV _ _).mono ai.size)) (fun F=>?_);clear G K;refine wD ?_
    try simp only[pU]
    go_wp2_with fail;go_meet;exact⟨O.heap.size,rfl,ai.size,lZ O _,F⟩
  ·skip;go_simp;refine oA G F fun F=>?_
   clear G K;refine wR 3 fun K G=>?_
   go_simp;refine Jj (aW.o _) ?_;rintro e O ⟨rfl,aM⟩;refine oT G F aM fun F=>?_
   clear G K;have ai:=F;have M:=(show GB (w3.drew.alloc (.cells #[.int .i64 0,.int .u64 0,.int .u64 0,.slice none 0 0,.int .u64 0,.int .u64 0] 75)) w3.heap.size 75 #[.int .i64 0,.int .u64 0,.int .u64 0,.slice none 0 0,.int .u64 0,.int .u64 0] from lZ w3.drew _).of (aM.block _ (by show w3.heap.size<_; simp));have z0:=M.at 0;have y0:=M.frozen 0;have z1:=M.at 1;have y1:=M.frozen 1;have z2:=M.at 2;have y2:=M.frozen 2;have z3:=M.at 3;have y3:=M.frozen 3;have z4:=M.at 4;have y4:=M.frozen 4;have z5:=M.at 5;have y5:=M.frozen 5;refine wR 6 fun K G=>?_
   go_simp;refine Jj (aF.o _ (aj.o.trans (F.mono aj.o.size))) ?_;rintro e wz ⟨rfl,P⟩;have P:=P.symm;subst P;refine G.o _ _ F fun F=>?_
   clear G K;refine wt 7 (.agg #[.int .i64 kind,.int .u64 (ow:Int),.int .u64 (sc:Int),.slice none 0 0,.int .u64 0,.int .u64 0]) F ?_;refine wR 9 fun K G=>?_
   go_simp;refine G.o _ _ (ai.trans ((World.kN O w3.heap.size (.int .i64 kind) (.int .u64 (ow:Int)) (.int .u64 (sc:Int)) (.slice none 0 0) (.int .u64 0) (.int .u64 0)).below (B:=w3.heap.size) ai.size (fun b u=>Nat.ne_of_lt u))) (fun F=>?_);clear G K;refine wD ?_
   try simp only[pU]
   go_wp2_with fail;go_meet;exact⟨w3.heap.size,rfl,Qs _,World.sI M (.int .i64 kind) (.int .u64 (ow:Int)) (.int .u64 (sc:Int)) (.slice none 0 0) (.int .u64 0) (.int .u64 0),F⟩
 case rest=>
 obtain⟨B,rfl,hB,dw,bE⟩:=hcut;obtain⟨w4,dN⟩:∃ x,x=wc:=⟨_,rfl⟩
 subst dN;have au:=hd dw;have qy:Hid (∀ x,Kept (fun b=>b≠B) w4 x->Bw w3 x):=fun x hk=>bE.trans (hk.below bE.size (fun b u=>by omega))
 have N:Hid (∀ x,Kept (fun b=>b≠B) w4 x->Bw w x):=fun x hk=>aj.o.trans ((qy.o x hk).mono aj.o.size)
 clear dw bE hB aW aF dK dL dM;go_wp2;go_loopw [20] (fun iv wr=>∃ k:Nat,k<=ps.length/\iv=.int .i64 k/\Hid (GB wr B 75 #[.int .i64 kind,.int .u64 (SK k:Int),.int .u64 (CK k:Int),.slice none 0 0,.int .u64 0,.int .u64 0])/\Hid (Kept (fun b=>b≠B) w4 wr)) (fun iv _=>ps.length-(intOf iv).toNat)
 case atStart=>exact⟨0,Zf _,rfl,by rw[bL.o,bM.o]; exact au.o,QR _ _⟩
 case round=>
  obtain⟨k,hk,rfl,HG,nO⟩:=hrel;by_cases bI:k<ps.length
  ·obtain⟨⟨pb,po,rfl,c0,c1,c2,c3,c4,c5⟩,-⟩:=(X8 (N.o wr nO.o) HP.o).2 k bI;obtain⟨dx,dz⟩:=bX.o k bI;have cO:=bU.o k hk;have ax:=bW.o k hk;have bg:=Zh (bP.o k);have bn:=Zh (CP.o k);obtain⟨⟨r,j,l⟩,vS⟩:∃ o,o=(ps.getD k aT).order:=⟨_,rfl⟩
   rw[<- vS]at c3;unfold aa.val at c3;simp only at c3;clear vS;generalize (ps.getD k aT).kind=pk at *;generalize (ps.getD k aT).sources=ss at *;generalize (ps.getD k aT).clauses=cs at *;generalize (ps.getD k aT).size=pz at *;generalize (ps.getD k aT).cost=pt at *;have Mo:Hid (∀ x,x=SK (k+1)->∀ y,y=CK (k+1)->∀ wy,GB wy B 75 #[.int .i64 kind,.int .u64 (x:Int),.int .u64 (y:Int),.slice none 0 0,.int .u64 0,.int .u64 0]->Kept (fun b=>b≠B) wr wy->GB wy B 75 #[.int .i64 kind,.int .u64 (SK (k+1):Int),.int .u64 (CK (k+1):Int),.slice none 0 0,.int .u64 0,.int .u64 0]/\Kept (fun b=>b≠B) w4 wy):=fun x hx y hy wy h1 h2=>⟨by rw[<- hx,<- hy]; exact h1,nO.o.trans h2⟩
   obtain⟨s1,bF⟩:∃ x,x=SK (k+1):=⟨_,rfl⟩
   obtain⟨t1,bH⟩:∃ x,x=CK (k+1):=⟨_,rfl⟩
   have cZ:=Zh (Mo.o s1 bF t1 bH);rw[<- bF]at bg;rw[<- bH]at bn;generalize SK k=s at *;generalize CK k=t at *;clear Mo bF bH;obtain⟨wb,dX,kb,gi⟩:=aR wr #[.int .i64 pk,.int .u64 (ss:Int),.int .u64 (cs:Int),.slice r l.length j,.int .u64 (pz:Int),.int .u64 (pt:Int)] 75;have gb:=HG.o.of (kb.block _ HG.o.lt);have dW:=HG.o.lt;obtain⟨wu,dY,ku,gu⟩:=aR wb #[.int .u64 (s:Int),.int .u64 (ss:Int)] 66;have aG:=gb.of (ku.block _ gb.lt);have df:=gi.of (ku.block _ gi.lt);have hU:=aX.o wb.heap.size s ss wu (gu.cell 0) (gu.cell 1) cO dx;rw[<- bg.o]at hU;obtain⟨wv,dA⟩:∃ x,wu.setCell (aD B 1) (.int .u64 (s1:Int))=x:=⟨_,rfl⟩
   have kv:Kept (fun b=>b≠B) wu wv:=by rw[<- dA]; exact Zn _ _ _ (fun h=>h rfl)
   have aH:GB wv B 75 #[.int .i64 kind,.int .u64 (s1:Int),.int .u64 (t:Int),.slice none 0 0,.int .u64 0,.int .u64 0]:=by rw[<- dA]; exact aG.set 1 _
   have dh:=df.keep kv (by show wr.heap.size≠B; omega);obtain⟨wx,dZ,kx,gx⟩:=aR wv #[.int .u64 (t:Int),.int .u64 (cs:Int)] 66;have aI:=aH.of (kx.block _ aH.lt);have bq:=aX.o wv.heap.size t cs wx (gx.cell 0) (gx.cell 1) ax dz;rw[<- bn.o]at bq;have di:GB (wx.setCell (aD B 2) (.int .u64 (t1:Int))) B 75 #[.int .i64 kind,.int .u64 (s1:Int),.int .u64 (t1:Int),.slice none 0 0,.int .u64 0,.int .u64 0]:=aI.set 2 _;have ky:Kept (fun b=>b≠B) wr (wx.setCell (aD B 2) (.int .u64 (t1:Int))):=((QU kb (fun b u _=>u)).trans ((QU ku (fun b u _=>u)).trans (kv.trans (QU kx (fun b u _=>u))))).trans (Zn _ _ _ (fun h=>h rfl));have jH:=Zh (cZ.o _ di ky);have b1:=gb.at 1;have b2:=gi.at 1;have b3:=aG.at 1;have b4:=aG.frozen 1;have b5:=aH.at 2;have b6:=dh.at 2;have b7:=aI.at 2;have b8:=aI.frozen 2;clear cZ di ky kb gi gb ku gu aG df kv aH dh kx gx aI HG nO bg bn dx dz cO ax;go_wp2_with fail;refine hU.mono ?_;rintro e wq ⟨rfl,av⟩;have av:=av.symm;subst av;clear hU;go_wp2_with fail;refine bq.mono ?_;rintro e wq ⟨rfl,av⟩;have av:=av.symm;subst av;clear bq;go_wp2;go_roundw
   case rel=>exact⟨k+1,by omega,by go_num,jH.o.1,jH.o.2⟩
   case measure=>simp[intOf]; omega
  ·obtain rfl:k=ps.length:=by omega
   obtain⟨O,NL⟩:∃ x,x=wr:=⟨_,rfl⟩
   subst NL;clear bI hk bL bM bP CP aX bU bW bX;generalize SK ps.length=S at *;generalize CK ps.length=C at *;by_cases k6:kind=6
   ·subst k6;have e6:=cB (qy.o O nO.o) ik;have e0:=cB (qy.o O nO.o) eT;have b3:=HG.o.at 3;have f3:=HG.o.frozen 3;obtain⟨A,II⟩:∃ x,O.setCell (aD B 3) (.slice da co.length dc)=x:=⟨_,rfl⟩
    have k6:Kept (fun b=>b≠B) O A:=by rw[<- II]; exact Zn _ _ _ (fun h=>h rfl)
    have Q:GB A B 75 #[.int .i64 6,.int .u64 (S:Int),.int .u64 (C:Int),.slice da co.length dc,.int .u64 0,.int .u64 0]:=by rw[<- II]; exact HG.o.set 3 _
    have R:=Zh (nO.o.trans k6);have uR:=N.o A R.o;have a:=qy.o A R.o;have d0:=cB a bD;have d1:=cB a bN;have d2:=cB a bA;have d3:=cB a bG;have d4:=cB a bO;have d5:=cB a bT;have d6:=cB a bQ;have d7:=cB a dF;have d8:=cB a dD;have d9:=cB a dE;have T:=cB a aU;have U:=cB a aZ;have V:=cB a aV;obtain⟨p0,p1,p2,p3,p4,p5⟩:=Q.k6;have G6:=hd Q;have v:=FY.o ⟨da,dc,co⟩ A uR;clear k6 Q a uR FY au;go_wp2_with fail;refine v.mono ?_;rintro e w7 ⟨rfl,gD⟩;have H:=G6.o.of (gD.block _ G6.o.lt);obtain⟨L,D⟩:∃ x,w7.setCell (aD B 4) (.int .u64 (Z:Int))=x:=⟨_,rfl⟩
    have X:GB L B 75 #[.int .i64 6,.int .u64 (S:Int),.int .u64 (C:Int),.slice da co.length dc,.int .u64 (Z:Int),.int .u64 0]:=by rw[<- D]; exact H.set 4 _
    have K8:Hid (Kept (fun b=>b≠B) w4 L):=R.o.trans ((QU gD (fun b u _=>u)).trans (by rw[<- D]; exact Zn _ _ _ (fun h=>h rfl)));have q4:=H.at 4;have f4:=H.frozen 4;obtain⟨r0,r1,r2,r3,r4,r5⟩:=X.k6;have G8:=hd X;have yG:=T9.o ⟨da,dc,co⟩ L (N.o L K8.o);clear v H X gD T9 d0 d1 d2 d3 d4 d5 d6 d7 d8 d9 T U V p0 p1 p2 p3 p4 p5 e0;go_wp2_with fail;refine yG.mono ?_;rintro e w9 ⟨rfl,qR⟩;have I:=G8.o.of (qR.block _ G8.o.lt);obtain⟨wT,E⟩:∃ x,w9.setCell (aD B 5) (.int .u64 (CT:Int))=x:=⟨_,rfl⟩
    have gT:GB wT B 75 #[.int .i64 6,.int .u64 (S:Int),.int .u64 (C:Int),.slice da co.length dc,.int .u64 (Z:Int),.int .u64 (CT:Int)]:=by rw[<- E]; exact I.set 5 _
    have J:Kept (fun b=>b≠B) w4 wT:=K8.o.trans ((QU qR (fun b u _=>u)).trans (by rw[<- E]; exact Zn _ _ _ (fun h=>h rfl)));have q5:=I.at 5;have f5:=I.frozen 5;obtain⟨t0,t1,t2,t3,t4,t5⟩:=gT.k6;have Y:GB w3 w2.heap.size 75 #[.int .i64 0,.int .u64 0,.int .u64 0,.slice none 0 0,.int .u64 0,.int .u64 0]:=tY.o;have g:=Y.of ((qy.o wT J).block _ Y.lt);have x0:=g.at 0;have y0:=g.frozen 0;have x1:=g.at 1;have y1:=g.frozen 1;have x2:=g.at 2;have y2:=g.frozen 2;have x3:=g.at 3;have y3:=g.frozen 3;have x4:=g.at 4;have y4:=g.frozen 4;have x5:=g.at 5;have y5:=g.frozen 5;have Cs:Bw w (World.nY wT w2.heap.size (.int .i64 6) (.int .u64 (S:Int)) (.int .u64 (C:Int)) (.slice da co.length dc) (.int .u64 (Z:Int)) (.int .u64 (CT:Int))):=(N.o wT J).trans ((World.kN _ _ _ _ _ _ _ _).below (N.o wT J).size (fun b u=>by have:=ay.o; omega));have qV:=Zh (qZ (World.sI g (.int .i64 6) (.int .u64 (S:Int)) (.int .u64 (C:Int)) (.slice da co.length dc) (.int .u64 (Z:Int)) (.int .u64 (CT:Int))));have jH:=Zh (JE.o ⟨da,dc,co⟩ (World.nY wT w2.heap.size (.int .i64 6) (.int .u64 (S:Int)) (.int .u64 (C:Int)) (.slice da co.length dc) (.int .u64 (Z:Int)) (.int .u64 (CT:Int))) (Qt Cs l9.o) (cu.o) (rfl) (.inl rfl) Cs);unfold World.nY at qV jH;clear yG I gT J Y g Cs qR JE r0 r1 r2 r3 r4 r5;go_wp2;exact ZN (Jk (p:=6) rfl rfl qV.o) rfl jH.o
   by_cases aN:2<=kind/\kind<=5
   ·obtain⟨⟨pb,po,rfl,-,-,-,c3,-,-⟩,ag⟩:=HP.o.2 0 (bY.o aN);rw[QI,Xg]at c3;have dU:=bY.o aN;obtain⟨⟨r,j,l⟩,vS⟩:∃ o,o=(ps.getD 0 aT).order:=⟨_,rfl⟩
    have ag:aa.At ⟨r,j,l⟩ w/\l.length<=j:=by
     have h1:=ag.order;have h2:=ag.cap;rw[<- vS]at h1 h2;exact⟨h1,h2⟩
    have Py:=Zh vS;rw[<- vS]at c3;simp only at c3;have c3:=cB (N.o O nO.o) c3;clear vS;rcases (by omega:kind=2∨kind=3∨kind=4∨kind=5) with rfl | rfl | rfl | rfl
    ·skip;have e0:=cB (qy.o O nO.o) eT;have b3:=HG.o.at 3;have f3:=HG.o.frozen 3;obtain⟨A,II⟩:∃ x,O.setCell (aD B 3) (.slice r l.length j)=x:=⟨_,rfl⟩
     have k6:Kept (fun b=>b≠B) O A:=by rw[<- II]; exact Zn _ _ _ (fun h=>h rfl)
     have Q:GB A B 75 #[.int .i64 2,.int .u64 (S:Int),.int .u64 (C:Int),.slice r l.length j,.int .u64 0,.int .u64 0]:=by rw[<- II]; exact HG.o.set 3 _
     have R:=Zh (nO.o.trans k6);have uR:=N.o A R.o;have a:=qy.o A R.o;have d0:=cB a bD;have d1:=cB a bN;have d2:=cB a bA;have d3:=cB a bG;have d4:=cB a bO;have d5:=cB a bT;have d6:=cB a bQ;have d7:=cB a dF;have d8:=cB a dD;have d9:=cB a dE;have T:=cB a aU;have U:=cB a aZ;have V:=cB a aV;obtain⟨p0,p1,p2,p3,p4,p5⟩:=Q.k6;have G6:=hd Q;have v:=FY.o ⟨r,j,l⟩ A uR;clear k6 Q a uR FY au;go_wp2_with fail;refine v.mono ?_;rintro e w7 ⟨rfl,gD⟩;have H:=G6.o.of (gD.block _ G6.o.lt);obtain⟨L,D⟩:∃ x,w7.setCell (aD B 4) (.int .u64 (Z:Int))=x:=⟨_,rfl⟩
     have X:GB L B 75 #[.int .i64 2,.int .u64 (S:Int),.int .u64 (C:Int),.slice r l.length j,.int .u64 (Z:Int),.int .u64 0]:=by rw[<- D]; exact H.set 4 _
     have K8:Hid (Kept (fun b=>b≠B) w4 L):=R.o.trans ((QU gD (fun b u _=>u)).trans (by rw[<- D]; exact Zn _ _ _ (fun h=>h rfl)));have q4:=H.at 4;have f4:=H.frozen 4;obtain⟨r0,r1,r2,r3,r4,r5⟩:=X.k6;have G8:=hd X;have yG:=T9.o ⟨r,j,l⟩ L (N.o L K8.o);clear v H X gD T9 d0 d1 d2 d3 d4 d5 d6 d7 d8 d9 T U V p0 p1 p2 p3 p4 p5 e0;go_wp2_with fail;refine yG.mono ?_;rintro e w9 ⟨rfl,qR⟩;have I:=G8.o.of (qR.block _ G8.o.lt);obtain⟨wT,E⟩:∃ x,w9.setCell (aD B 5) (.int .u64 (CT:Int))=x:=⟨_,rfl⟩
     have gT:GB wT B 75 #[.int .i64 2,.int .u64 (S:Int),.int .u64 (C:Int),.slice r l.length j,.int .u64 (Z:Int),.int .u64 (CT:Int)]:=by rw[<- E]; exact I.set 5 _
     have J:Kept (fun b=>b≠B) w4 wT:=K8.o.trans ((QU qR (fun b u _=>u)).trans (by rw[<- E]; exact Zn _ _ _ (fun h=>h rfl)));have q5:=I.at 5;have f5:=I.frozen 5;obtain⟨t0,t1,t2,t3,t4,t5⟩:=gT.k6;have Y:GB w3 w2.heap.size 75 #[.int .i64 0,.int .u64 0,.int .u64 0,.slice none 0 0,.int .u64 0,.int .u64 0]:=tY.o;have g:=Y.of ((qy.o wT J).block _ Y.lt);have x0:=g.at 0;have y0:=g.frozen 0;have x1:=g.at 1;have y1:=g.frozen 1;have x2:=g.at 2;have y2:=g.frozen 2;have x3:=g.at 3;have y3:=g.frozen 3;have x4:=g.at 4;have y4:=g.frozen 4;have x5:=g.at 5;have y5:=g.frozen 5;have Cs:Bw w (World.nY wT w2.heap.size (.int .i64 2) (.int .u64 (S:Int)) (.int .u64 (C:Int)) (.slice r l.length j) (.int .u64 (Z:Int)) (.int .u64 (CT:Int))):=(N.o wT J).trans ((World.kN _ _ _ _ _ _ _ _).below (N.o wT J).size (fun b u=>by have:=ay.o; omega));have qV:=Zh (qZ (World.sI g (.int .i64 2) (.int .u64 (S:Int)) (.int .u64 (C:Int)) (.slice r l.length j) (.int .u64 (Z:Int)) (.int .u64 (CT:Int))));have jH:=Zh (JE.o ⟨r,j,l⟩ (World.nY wT w2.heap.size (.int .i64 2) (.int .u64 (S:Int)) (.int .u64 (C:Int)) (.slice r l.length j) (.int .u64 (Z:Int)) (.int .u64 (CT:Int))) (Qt Cs ag.1) (ag.2) (by rw[Qv (by decide),Qu (by decide)]; exact congrArg aa.xs Py.o) (.inr (.inl Py.o)) Cs);unfold World.nY at qV jH;clear yG I gT J Y g Cs qR JE r0 r1 r2 r3 r4 r5;go_wp2;exact ZN (Jk (p:=6) rfl rfl qV.o) rfl jH.o
    ·skip;have e0:=cB (qy.o O nO.o) eT;have b3:=HG.o.at 3;have f3:=HG.o.frozen 3;obtain⟨A,II⟩:∃ x,O.setCell (aD B 3) (.slice r l.length j)=x:=⟨_,rfl⟩
     have k6:Kept (fun b=>b≠B) O A:=by rw[<- II]; exact Zn _ _ _ (fun h=>h rfl)
     have Q:GB A B 75 #[.int .i64 3,.int .u64 (S:Int),.int .u64 (C:Int),.slice r l.length j,.int .u64 0,.int .u64 0]:=by rw[<- II]; exact HG.o.set 3 _
     have R:=Zh (nO.o.trans k6);have uR:=N.o A R.o;have a:=qy.o A R.o;have d0:=cB a bD;have d1:=cB a bN;have d2:=cB a bA;have d3:=cB a bG;have d4:=cB a bO;have d5:=cB a bT;have d6:=cB a bQ;have d7:=cB a dF;have d8:=cB a dD;have d9:=cB a dE;have T:=cB a aU;have U:=cB a aZ;have V:=cB a aV;obtain⟨p0,p1,p2,p3,p4,p5⟩:=Q.k6;have G6:=hd Q;have v:=FY.o ⟨r,j,l⟩ A uR;clear k6 Q a uR FY au;go_wp2_with fail;refine v.mono ?_;rintro e w7 ⟨rfl,gD⟩;have H:=G6.o.of (gD.block _ G6.o.lt);obtain⟨L,D⟩:∃ x,w7.setCell (aD B 4) (.int .u64 (Z:Int))=x:=⟨_,rfl⟩
     have X:GB L B 75 #[.int .i64 3,.int .u64 (S:Int),.int .u64 (C:Int),.slice r l.length j,.int .u64 (Z:Int),.int .u64 0]:=by rw[<- D]; exact H.set 4 _
     have K8:Hid (Kept (fun b=>b≠B) w4 L):=R.o.trans ((QU gD (fun b u _=>u)).trans (by rw[<- D]; exact Zn _ _ _ (fun h=>h rfl)));have q4:=H.at 4;have f4:=H.frozen 4;obtain⟨r0,r1,r2,r3,r4,r5⟩:=X.k6;have G8:=hd X;have yG:=T9.o ⟨r,j,l⟩ L (N.o L K8.o);clear v H X gD T9 d0 d1 d2 d3 d4 d5 d6 d7 d8 d9 T U V p0 p1 p2 p3 p4 p5 e0;go_wp2_with fail;refine yG.mono ?_;rintro e w9 ⟨rfl,qR⟩;have I:=G8.o.of (qR.block _ G8.o.lt);obtain⟨wT,E⟩:∃ x,w9.setCell (aD B 5) (.int .u64 (CT:Int))=x:=⟨_,rfl⟩
     have gT:GB wT B 75 #[.int .i64 3,.int .u64 (S:Int),.int .u64 (C:Int),.slice r l.length j,.int .u64 (Z:Int),.int .u64 (CT:Int)]:=by rw[<- E]; exact I.set 5 _
     have J:Kept (fun b=>b≠B) w4 wT:=K8.o.trans ((QU qR (fun b u _=>u)).trans (by rw[<- E]; exact Zn _ _ _ (fun h=>h rfl)));have q5:=I.at 5;have f5:=I.frozen 5;obtain⟨t0,t1,t2,t3,t4,t5⟩:=gT.k6;have Y:GB w3 w2.heap.size 75 #[.int .i64 0,.int .u64 0,.int .u64 0,.slice none 0 0,.int .u64 0,.int .u64 0]:=tY.o;have g:=Y.of ((qy.o wT J).block _ Y.lt);have x0:=g.at 0;have y0:=g.frozen 0;have x1:=g.at 1;have y1:=g.frozen 1;have x2:=g.at 2;have y2:=g.frozen 2;have x3:=g.at 3;have y3:=g.frozen 3;have x4:=g.at 4;have y4:=g.frozen 4;have x5:=g.at 5;have y5:=g.frozen 5;have Cs:Bw w (World.nY wT w2.heap.size (.int .i64 3) (.int .u64 (S:Int)) (.int .u64 (C:Int)) (.slice r l.length j) (.int .u64 (Z:Int)) (.int .u64 (CT:Int))):=(N.o wT J).trans ((World.kN _ _ _ _ _ _ _ _).below (N.o wT J).size (fun b u=>by have:=ay.o; omega));have qV:=Zh (qZ (World.sI g (.int .i64 3) (.int .u64 (S:Int)) (.int .u64 (C:Int)) (.slice r l.length j) (.int .u64 (Z:Int)) (.int .u64 (CT:Int))));have jH:=Zh (JE.o ⟨r,j,l⟩ (World.nY wT w2.heap.size (.int .i64 3) (.int .u64 (S:Int)) (.int .u64 (C:Int)) (.slice r l.length j) (.int .u64 (Z:Int)) (.int .u64 (CT:Int))) (Qt Cs ag.1) (ag.2) (by rw[Qv (by decide),Qu (by decide)]; exact congrArg aa.xs Py.o) (.inr (.inl Py.o)) Cs);unfold World.nY at qV jH;clear yG I gT J Y g Cs qR JE r0 r1 r2 r3 r4 r5;go_wp2;exact ZN (Jk (p:=6) rfl rfl qV.o) rfl jH.o
    ·skip;have e0:=cB (qy.o O nO.o) eT;have b3:=HG.o.at 3;have f3:=HG.o.frozen 3;obtain⟨A,II⟩:∃ x,O.setCell (aD B 3) (.slice r l.length j)=x:=⟨_,rfl⟩
     have k6:Kept (fun b=>b≠B) O A:=by rw[<- II]; exact Zn _ _ _ (fun h=>h rfl)
     have Q:GB A B 75 #[.int .i64 4,.int .u64 (S:Int),.int .u64 (C:Int),.slice r l.length j,.int .u64 0,.int .u64 0]:=by rw[<- II]; exact HG.o.set 3 _
     have R:=Zh (nO.o.trans k6);have uR:=N.o A R.o;have a:=qy.o A R.o;have d0:=cB a bD;have d1:=cB a bN;have d2:=cB a bA;have d3:=cB a bG;have d4:=cB a bO;have d5:=cB a bT;have d6:=cB a bQ;have d7:=cB a dF;have d8:=cB a dD;have d9:=cB a dE;have T:=cB a aU;have U:=cB a aZ;have V:=cB a aV;obtain⟨p0,p1,p2,p3,p4,p5⟩:=Q.k6;have G6:=hd Q;have v:=FY.o ⟨r,j,l⟩ A uR;clear k6 Q a uR FY au;go_wp2_with fail;refine v.mono ?_;rintro e w7 ⟨rfl,gD⟩;have H:=G6.o.of (gD.block _ G6.o.lt);obtain⟨L,D⟩:∃ x,w7.setCell (aD B 4) (.int .u64 (Z:Int))=x:=⟨_,rfl⟩
     have X:GB L B 75 #[.int .i64 4,.int .u64 (S:Int),.int .u64 (C:Int),.slice r l.length j,.int .u64 (Z:Int),.int .u64 0]:=by rw[<- D]; exact H.set 4 _
     have K8:Hid (Kept (fun b=>b≠B) w4 L):=R.o.trans ((QU gD (fun b u _=>u)).trans (by rw[<- D]; exact Zn _ _ _ (fun h=>h rfl)));have q4:=H.at 4;have f4:=H.frozen 4;obtain⟨r0,r1,r2,r3,r4,r5⟩:=X.k6;have G8:=hd X;have yG:=T9.o ⟨r,j,l⟩ L (N.o L K8.o);clear v H X gD T9 d0 d1 d2 d3 d4 d5 d6 d7 d8 d9 T U V p0 p1 p2 p3 p4 p5 e0;go_wp2_with fail;refine yG.mono ?_;rintro e w9 ⟨rfl,qR⟩;have I:=G8.o.of (qR.block _ G8.o.lt);obtain⟨wT,E⟩:∃ x,w9.setCell (aD B 5) (.int .u64 (CT:Int))=x:=⟨_,rfl⟩
     have gT:GB wT B 75 #[.int .i64 4,.int .u64 (S:Int),.int .u64 (C:Int),.slice r l.length j,.int .u64 (Z:Int),.int .u64 (CT:Int)]:=by rw[<- E]; exact I.set 5 _
     have J:Kept (fun b=>b≠B) w4 wT:=K8.o.trans ((QU qR (fun b u _=>u)).trans (by rw[<- E]; exact Zn _ _ _ (fun h=>h rfl)));have q5:=I.at 5;have f5:=I.frozen 5;obtain⟨t0,t1,t2,t3,t4,t5⟩:=gT.k6;have Y:GB w3 w2.heap.size 75 #[.int .i64 0,.int .u64 0,.int .u64 0,.slice none 0 0,.int .u64 0,.int .u64 0]:=tY.o;have g:=Y.of ((qy.o wT J).block _ Y.lt);have x0:=g.at 0;have y0:=g.frozen 0;have x1:=g.at 1;have y1:=g.frozen 1;have x2:=g.at 2;have y2:=g.frozen 2;have x3:=g.at 3;have y3:=g.frozen 3;have x4:=g.at 4;have y4:=g.frozen 4;have x5:=g.at 5;have y5:=g.frozen 5;have Cs:Bw w (World.nY wT w2.heap.size (.int .i64 4) (.int .u64 (S:Int)) (.int .u64 (C:Int)) (.slice r l.length j) (.int .u64 (Z:Int)) (.int .u64 (CT:Int))):=(N.o wT J).trans ((World.kN _ _ _ _ _ _ _ _).below (N.o wT J).size (fun b u=>by have:=ay.o; omega));have qV:=Zh (qZ (World.sI g (.int .i64 4) (.int .u64 (S:Int)) (.int .u64 (C:Int)) (.slice r l.length j) (.int .u64 (Z:Int)) (.int .u64 (CT:Int))));have jH:=Zh (JE.o ⟨r,j,l⟩ (World.nY wT w2.heap.size (.int .i64 4) (.int .u64 (S:Int)) (.int .u64 (C:Int)) (.slice r l.length j) (.int .u64 (Z:Int)) (.int .u64 (CT:Int))) (Qt Cs ag.1) (ag.2) (by rw[Qv (by decide),Qu (by decide)]; exact congrArg aa.xs Py.o) (.inr (.inl Py.o)) Cs);unfold World.nY at qV jH;clear yG I gT J Y g Cs qR JE r0 r1 r2 r3 r4 r5;go_wp2;exact ZN (Jk (p:=6) rfl rfl qV.o) rfl jH.o
    ·skip;have e0:=cB (qy.o O nO.o) eT;have b3:=HG.o.at 3;have f3:=HG.o.frozen 3;obtain⟨A,II⟩:∃ x,O.setCell (aD B 3) (.slice r l.length j)=x:=⟨_,rfl⟩
     have k6:Kept (fun b=>b≠B) O A:=by rw[<- II]; exact Zn _ _ _ (fun h=>h rfl)
     have Q:GB A B 75 #[.int .i64 5,.int .u64 (S:Int),.int .u64 (C:Int),.slice r l.length j,.int .u64 0,.int .u64 0]:=by rw[<- II]; exact HG.o.set 3 _
     have R:=Zh (nO.o.trans k6);have uR:=N.o A R.o;have a:=qy.o A R.o;have d0:=cB a bD;have d1:=cB a bN;have d2:=cB a bA;have d3:=cB a bG;have d4:=cB a bO;have d5:=cB a bT;have d6:=cB a bQ;have d7:=cB a dF;have d8:=cB a dD;have d9:=cB a dE;have T:=cB a aU;have U:=cB a aZ;have V:=cB a aV;obtain⟨p0,p1,p2,p3,p4,p5⟩:=Q.k6;have G6:=hd Q;have v:=FY.o ⟨r,j,l⟩ A uR;clear k6 Q a uR FY au;go_wp2_with fail;refine v.mono ?_;rintro e w7 ⟨rfl,gD⟩;have H:=G6.o.of (gD.block _ G6.o.lt);obtain⟨L,D⟩:∃ x,w7.setCell (aD B 4) (.int .u64 (Z:Int))=x:=⟨_,rfl⟩
     have X:GB L B 75 #[.int .i64 5,.int .u64 (S:Int),.int .u64 (C:Int),.slice r l.length j,.int .u64 (Z:Int),.int .u64 0]:=by rw[<- D]; exact H.set 4 _
     have K8:Hid (Kept (fun b=>b≠B) w4 L):=R.o.trans ((QU gD (fun b u _=>u)).trans (by rw[<- D]; exact Zn _ _ _ (fun h=>h rfl)));have q4:=H.at 4;have f4:=H.frozen 4;obtain⟨r0,r1,r2,r3,r4,r5⟩:=X.k6;have G8:=hd X;have yG:=T9.o ⟨r,j,l⟩ L (N.o L K8.o);clear v H X gD T9 d0 d1 d2 d3 d4 d5 d6 d7 d8 d9 T U V p0 p1 p2 p3 p4 p5 e0;go_wp2_with fail;refine yG.mono ?_;rintro e w9 ⟨rfl,qR⟩;have I:=G8.o.of (qR.block _ G8.o.lt);obtain⟨wT,E⟩:∃ x,w9.setCell (aD B 5) (.int .u64 (CT:Int))=x:=⟨_,rfl⟩
     have gT:GB wT B 75 #[.int .i64 5,.int .u64 (S:Int),.int .u64 (C:Int),.slice r l.length j,.int .u64 (Z:Int),.int .u64 (CT:Int)]:=by rw[<- E]; exact I.set 5 _
     have J:Kept (fun b=>b≠B) w4 wT:=K8.o.trans ((QU qR (fun b u _=>u)).trans (by rw[<- E]; exact Zn _ _ _ (fun h=>h rfl)));have q5:=I.at 5;have f5:=I.frozen 5;obtain⟨t0,t1,t2,t3,t4,t5⟩:=gT.k6;have Y:GB w3 w2.heap.size 75 #[.int .i64 0,.int .u64 0,.int .u64 0,.slice none 0 0,.int .u64 0,.int .u64 0]:=tY.o;have g:=Y.of ((qy.o wT J).block _ Y.lt);have x0:=g.at 0;have y0:=g.frozen 0;have x1:=g.at 1;have y1:=g.frozen 1;have x2:=g.at 2;have y2:=g.frozen 2;have x3:=g.at 3;have y3:=g.frozen 3;have x4:=g.at 4;have y4:=g.frozen 4;have x5:=g.at 5;have y5:=g.frozen 5;have Cs:Bw w (World.nY wT w2.heap.size (.int .i64 5) (.int .u64 (S:Int)) (.int .u64 (C:Int)) (.slice r l.length j) (.int .u64 (Z:Int)) (.int .u64 (CT:Int))):=(N.o wT J).trans ((World.kN _ _ _ _ _ _ _ _).below (N.o wT J).size (fun b u=>by have:=ay.o; omega));have qV:=Zh (qZ (World.sI g (.int .i64 5) (.int .u64 (S:Int)) (.int .u64 (C:Int)) (.slice r l.length j) (.int .u64 (Z:Int)) (.int .u64 (CT:Int))));have jH:=Zh (JE.o ⟨r,j,l⟩ (World.nY wT w2.heap.size (.int .i64 5) (.int .u64 (S:Int)) (.int .u64 (C:Int)) (.slice r l.length j) (.int .u64 (Z:Int)) (.int .u64 (CT:Int))) (Qt Cs ag.1) (ag.2) (by rw[Qv (by decide),Qu (by decide)]; exact congrArg aa.xs Py.o) (.inr (.inl Py.o)) Cs);unfold World.nY at qV jH;clear yG I gT J Y g Cs qR JE r0 r1 r2 r3 r4 r5;go_wp2;exact ZN (Jk (p:=6) rfl rfl qV.o) rfl jH.o
   have j2:(kind==2)=false:=by rw[XU]; omega
   have j3:(kind==3)=false:=by rw[XU]; omega
   have j4:(kind==4)=false:=by rw[XU]; omega
   have j5:(kind==5)=false:=by rw[XU]; omega
   have j6:(kind==6)=false:=by rw[XU]; omega
   have dC:Hid _:=aN;have dG:Hid _:=k6;clear aN k6;have e0:=cB (qy.o O nO.o) eT;obtain⟨A,II⟩:∃ x,x=O:=⟨_,rfl⟩
   subst II;have k6:Kept (fun b=>b≠B) A A:=QR _ _;have Q:=HG.o;have R:=Zh (nO.o.trans k6);have uR:=N.o A R.o;have a:=qy.o A R.o;have d0:=cB a bD;have d1:=cB a bN;have d2:=cB a bA;have d3:=cB a bG;have d4:=cB a bO;have d5:=cB a bT;have d6:=cB a bQ;have d7:=cB a dF;have d8:=cB a dD;have d9:=cB a dE;have T:=cB a aU;have U:=cB a aZ;have V:=cB a aV;obtain⟨p0,p1,p2,p3,p4,p5⟩:=Q.k6;have G6:=hd Q;have v:=FY.o ⟨none,0,[]⟩ A uR;clear k6 Q a uR FY au;go_wp2_with fail;refine v.mono ?_;rintro e w7 ⟨rfl,gD⟩;have H:=G6.o.of (gD.block _ G6.o.lt);obtain⟨L,D⟩:∃ x,w7.setCell (aD B 4) (.int .u64 (Z:Int))=x:=⟨_,rfl⟩
   have X:GB L B 75 #[.int .i64 kind,.int .u64 (S:Int),.int .u64 (C:Int),.slice none 0 0,.int .u64 (Z:Int),.int .u64 0]:=by rw[<- D]; exact H.set 4 _
   have K8:Hid (Kept (fun b=>b≠B) w4 L):=R.o.trans ((QU gD (fun b u _=>u)).trans (by rw[<- D]; exact Zn _ _ _ (fun h=>h rfl)));have q4:=H.at 4;have f4:=H.frozen 4;obtain⟨r0,r1,r2,r3,r4,r5⟩:=X.k6;have G8:=hd X;have yG:=T9.o ⟨none,0,[]⟩ L (N.o L K8.o);clear v H X gD T9 d0 d1 d2 d3 d4 d5 d6 d7 d8 d9 T U V p0 p1 p2 p3 p4 p5 e0;go_wp2_with fail;refine yG.mono ?_;rintro e w9 ⟨rfl,qR⟩;have I:=G8.o.of (qR.block _ G8.o.lt);obtain⟨wT,E⟩:∃ x,w9.setCell (aD B 5) (.int .u64 (CT:Int))=x:=⟨_,rfl⟩
   have gT:GB wT B 75 #[.int .i64 kind,.int .u64 (S:Int),.int .u64 (C:Int),.slice none 0 0,.int .u64 (Z:Int),.int .u64 (CT:Int)]:=by rw[<- E]; exact I.set 5 _
   have J:Kept (fun b=>b≠B) w4 wT:=K8.o.trans ((QU qR (fun b u _=>u)).trans (by rw[<- E]; exact Zn _ _ _ (fun h=>h rfl)));have q5:=I.at 5;have f5:=I.frozen 5;obtain⟨t0,t1,t2,t3,t4,t5⟩:=gT.k6;have Y:GB w3 w2.heap.size 75 #[.int .i64 0,.int .u64 0,.int .u64 0,.slice none 0 0,.int .u64 0,.int .u64 0]:=tY.o;have g:=Y.of ((qy.o wT J).block _ Y.lt);have x0:=g.at 0;have y0:=g.frozen 0;have x1:=g.at 1;have y1:=g.frozen 1;have x2:=g.at 2;have y2:=g.frozen 2;have x3:=g.at 3;have y3:=g.frozen 3;have x4:=g.at 4;have y4:=g.frozen 4;have x5:=g.at 5;have y5:=g.frozen 5;have Cs:Bw w (World.nY wT w2.heap.size (.int .i64 kind) (.int .u64 (S:Int)) (.int .u64 (C:Int)) (.slice none 0 0) (.int .u64 (Z:Int)) (.int .u64 (CT:Int))):=(N.o wT J).trans ((World.kN _ _ _ _ _ _ _ _).below (N.o wT J).size (fun b u=>by have:=ay.o; omega));have qV:=Zh (qZ (World.sI g (.int .i64 kind) (.int .u64 (S:Int)) (.int .u64 (C:Int)) (.slice none 0 0) (.int .u64 (Z:Int)) (.int .u64 (CT:Int))));have jH:=Zh (JE.o ⟨none,0,[]⟩ (World.nY wT w2.heap.size (.int .i64 kind) (.int .u64 (S:Int)) (.int .u64 (C:Int)) (.slice none 0 0) (.int .u64 (Z:Int)) (.int .u64 (CT:Int))) (⟨by simp,fun i hi=>absurd hi (by simp)⟩) (Qs _) (by rw[Qv dG.o,Qv dC.o]) (.inr (.inr rfl)) Cs);unfold World.nY at qV jH;clear yG I gT J Y g Cs qR JE r0 r1 r2 r3 r4 r5;go_wp2;exact ZN (Jk (p:=6) rfl rfl qV.o) rfl jH.o
def Jw:=@World.kN
