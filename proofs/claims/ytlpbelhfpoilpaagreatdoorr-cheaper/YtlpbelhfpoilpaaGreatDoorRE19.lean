import Derived.Test.YtlpbelhfpoilpaaGreatDoorRE14
import Derived.Test.YtlpbelhfpoilpaaGreatDoorRE16
set_option linter.all false
set_option maxRecDepth 100000
set_option maxHeartbeats 16000000
namespace Go.Proofs.Zz
open Go.RowKit Go.Shelf
variable {W:World} {a0 a1:Value} {B:Nat}
theorem Tryz.ads:(Tryz.prog.info? 195).map (fun i=>(i.zero,i.size,i.bytes))=some (some (.agg #[.int .i64 0,.int .u64 0]),2,16):=by kernel_rfl
theorem Tryz.adt:(Tryz.prog.info? 36).map (fun i=>(i.zero,i.size,i.bytes))=some (some (.int .u64 0),1,8):=by kernel_rfl
theorem Tryz.adu:(Tryz.prog.info? 86).map (fun i=>(i.zero,i.size,i.bytes))=some (some (.int .u64 0),1,8):=by kernel_rfl
theorem Tryz.Sg:195≠90:=by decide
theorem Tryz.Lh:36≠90:=by decide
theorem Tryz.aft:86≠90:=by decide
theorem Tryz.afu:195≠36:=by decide
theorem Tryz.afv:86≠36:=by decide
theorem Tryz.al5:195≠80:=by decide
theorem Li(W:World)(base:Nat)(v:Value)(xs:List Nat)(hown:W.ownsRow base 36 1 v xs.length (xs.map fun (x:Nat)=>.int .u64 (x:Int)))(hl:xs.length<=1000)(hb:base<=W.heap.size)(x:Nat)(ty:TypeId) :
  ∃ v' w',(Builtin.append_ #[87,87] ty #[v,.slice (some (aD W.heap.size 0)) 1 1]).run Tryz.prog (W.alloc (.cells #[.int .u64 (x:Int)] 36))=.ok v' w'/\
   w'.ownsRow base 36 1 v' (xs++[x]).length ((xs++[x]).map fun (x:Nat)=>.int .u64 (x:Int))/\Kept (fun b=>v.ownBlock≠some b) W w'/\(∃ a m c,v' = .slice a m c)/\(v'.ownBlock=v.ownBlock∨v'.ownBlock=some (W.heap.size+1)):=by
 obtain⟨i0,hi,hz0,hz1,hz2⟩:=ZU Tryz.adt;obtain⟨v',w',hr,ho,hk,hs,hat⟩:=iG (P:=Tryz.prog) W base 87 ty 36 i0 (.int .u64 0) 1 8 Tryz.underlying87 hi hz0 hz1 hz2 rfl (by decide) v xs.length _ hown hb [.int .u64 (x:Int)] rfl (fun u hu=>by rw[ZR]at hu; rw[hu]; rfl) hl (by decide);exact⟨v',w',hr,by rw[Zb,Qs]; exact ho,hk,hs,hat⟩
theorem aam(W:World)(base:Nat)(v:Value)(xs:List Nat)(hown:W.ownsRow base 86 1 v xs.length (xs.map fun (x:Nat)=>.int .u64 (x:Int)))(hl:xs.length<=1000)(hb:base<=W.heap.size)(x:Nat)(ty:TypeId) :
  ∃ v' w',(Builtin.append_ #[88,88] ty #[v,.slice (some (aD W.heap.size 0)) 1 1]).run Tryz.prog (W.alloc (.cells #[.int .u64 (x:Int)] 86))=.ok v' w'/\
   w'.ownsRow base 86 1 v' (xs++[x]).length ((xs++[x]).map fun (x:Nat)=>.int .u64 (x:Int))/\Kept (fun b=>v.ownBlock≠some b) W w'/\(∃ a m c,v' = .slice a m c)/\(v'.ownBlock=v.ownBlock∨v'.ownBlock=some (W.heap.size+1)):=by
 obtain⟨i0,hi,hz0,hz1,hz2⟩:=ZU Tryz.adu;obtain⟨v',w',hr,ho,hk,hs,hat⟩:=iG (P:=Tryz.prog) W base 88 ty 86 i0 (.int .u64 0) 1 8 Tryz.underlying88 hi hz0 hz1 hz2 rfl (by decide) v xs.length _ hown hb [.int .u64 (x:Int)] rfl (fun u hu=>by rw[ZR]at hu; rw[hu]; rfl) hl (by decide);exact⟨v',w',hr,by rw[Zb,Qs]; exact ho,hk,hs,hat⟩
theorem aan(W:World)(base:Nat)(v:Value)(n:Nat)(xs:List Value)(hown:W.ownsRow base 195 2 v n xs)(hl:n<=1000)(hb:base<=W.heap.size)(s:Nat)(k:Int)(ty:TypeId) :
  ∃ v' w',(Builtin.append_ #[84,84] ty #[v,.slice (some (aD W.heap.size 0)) 1 1]).run Tryz.prog (W.alloc (.cells #[.int .i64 (s:Int),.int .u64 k] 195))=.ok v' w'/\
   w'.ownsRow base 195 2 v' (n+1) (xs++jw (s,k))/\Kept (fun b=>v.ownBlock≠some b) W w'/\(∃ a m c,v' = .slice a m c)/\(v'.ownBlock=v.ownBlock∨v'.ownBlock=some (W.heap.size+1)):=by
 obtain⟨i0,hi,hz0,hz1,hz2⟩:=ZU Tryz.ads;exact iG (P:=Tryz.prog) W base 84 ty 195 i0 (.agg #[.int .i64 0,.int .u64 0]) 2 16 Tryz.underlying84 hi hz0 hz1 hz2 rfl (by decide) v n _ hown hb [.int .i64 (s:Int),.int .u64 k] rfl (fun u hu=>by simp at hu; rcases hu with rfl | rfl <;> rfl) hl (by decide)
theorem al6{b:Nat}{ty:TypeId}{t:af}(h:GB W b ty #[a0,a1,.int .i64 t.k0,.int .i64 t.k1,.int .i64 t.k2,.int .i64 t.k3]){m:Nat}(hm:m<4):W.cell? (aD b (2+m))=some (.int .i64 (t.kd m)):=by
 rcases (by omega:m=0∨m=1∨m=2∨m=3) with rfl | rfl | rfl | rfl
 ·exact h.cell 2
 ·exact h.cell 3
 ·exact h.cell 4
 ·exact h.cell 5
theorem FU{l:List Nat}{i:Nat}(hi:i<l.length):l.take (i+1)=l.take i++[l.getD i 0]:=by
 have e:l.getD i 0=l[i]:=by simp[List.getD,hi]
 rw[Qr hi,e]
def World.mr(W:World)(B:Nat)(v0 v1 v2 v3 v4 v5 v6 v7 v8 v9 v10 v11 v12:Value):World:=(((((((((((((W.setCell (aD B 0) v0).setCell (aD B 1) v1).setCell (aD B 2) v2).setCell (aD B 3) v3).setCell (aD B 4) v4).setCell (aD B 5) v5).setCell (aD B 6) v6).setCell (aD B 7) v7).setCell (aD B 8) v8).setCell (aD B 9) v9).setCell (aD B 10) v10).setCell (aD B 11) v11).setCell (aD B 12) v12)
theorem World.yw{t:TypeId}{a2 a3 a4 a5 a6 a7 a8 a9 iy iL a12:Value}(h:GB W B t #[a0,a1,a2,a3,a4,a5,a6,a7,a8,a9,iy,iL,a12])(v0 v1 v2 v3 v4 v5 v6 v7 v8 v9 v10 v11 v12:Value):GB (World.mr W B v0 v1 v2 v3 v4 v5 v6 v7 v8 v9 v10 v11 v12) B t #[v0,v1,v2,v3,v4,v5,v6,v7,v8,v9,v10,v11,v12]:=by
 unfold World.mr;have h0:GB (W.setCell (aD B 0) v0) B t #[v0,a1,a2,a3,a4,a5,a6,a7,a8,a9,iy,iL,a12]:=h.set 0 v0;have h1:GB ((W.setCell (aD B 0) v0).setCell (aD B 1) v1) B t #[v0,v1,a2,a3,a4,a5,a6,a7,a8,a9,iy,iL,a12]:=h0.set 1 v1;have h2:GB (((W.setCell (aD B 0) v0).setCell (aD B 1) v1).setCell (aD B 2) v2) B t #[v0,v1,v2,a3,a4,a5,a6,a7,a8,a9,iy,iL,a12]:=h1.set 2 v2;have h3:GB ((((W.setCell (aD B 0) v0).setCell (aD B 1) v1).setCell (aD B 2) v2).setCell (aD B 3) v3) B t #[v0,v1,v2,v3,a4,a5,a6,a7,a8,a9,iy,iL,a12]:=h2.set 3 v3;have h4:GB (((((W.setCell (aD B 0) v0).setCell (aD B 1) v1).setCell (aD B 2) v2).setCell (aD B 3) v3).setCell (aD B 4) v4) B t #[v0,v1,v2,v3,v4,a5,a6,a7,a8,a9,iy,iL,a12]:=h3.set 4 v4;have h5:GB ((((((W.setCell (aD B 0) v0).setCell (aD B 1) v1).setCell (aD B 2) v2).setCell (aD B 3) v3).setCell (aD B 4) v4).setCell (aD B 5) v5) B t #[v0,v1,v2,v3,v4,v5,a6,a7,a8,a9,iy,iL,a12]:=h4.set 5 v5;have h6:GB (((((((W.setCell (aD B 0) v0).setCell (aD B 1) v1).setCell (aD B 2) v2).setCell (aD B 3) v3).setCell (aD B 4) v4).setCell (aD B 5) v5).setCell (aD B 6) v6) B t #[v0,v1,v2,v3,v4,v5,v6,a7,a8,a9,iy,iL,a12]:=h5.set 6 v6;have h7:GB ((((((((W.setCell (aD B 0) v0).setCell (aD B 1) v1).setCell (aD B 2) v2).setCell (aD B 3) v3).setCell (aD B 4) v4).setCell (aD B 5) v5).setCell (aD B 6) v6).setCell (aD B 7) v7) B t #[v0,v1,v2,v3,v4,v5,v6,v7,a8,a9,iy,iL,a12]:=h6.set 7 v7;have h8:GB (((((((((W.setCell (aD B 0) v0).setCell (aD B 1) v1).setCell (aD B 2) v2).setCell (aD B 3) v3).setCell (aD B 4) v4).setCell (aD B 5) v5).setCell (aD B 6) v6).setCell (aD B 7) v7).setCell (aD B 8) v8) B t #[v0,v1,v2,v3,v4,v5,v6,v7,v8,a9,iy,iL,a12]:=h7.set 8 v8;have h9:GB ((((((((((W.setCell (aD B 0) v0).setCell (aD B 1) v1).setCell (aD B 2) v2).setCell (aD B 3) v3).setCell (aD B 4) v4).setCell (aD B 5) v5).setCell (aD B 6) v6).setCell (aD B 7) v7).setCell (aD B 8) v8).setCell (aD B 9) v9) B t #[v0,v1,v2,v3,v4,v5,v6,v7,v8,v9,iy,iL,a12]:=h8.set 9 v9;have h10:GB (((((((((((W.setCell (aD B 0) v0).setCell (aD B 1) v1).setCell (aD B 2) v2).setCell (aD B 3) v3).setCell (aD B 4) v4).setCell (aD B 5) v5).setCell (aD B 6) v6).setCell (aD B 7) v7).setCell (aD B 8) v8).setCell (aD B 9) v9).setCell (aD B 10) v10) B t #[v0,v1,v2,v3,v4,v5,v6,v7,v8,v9,v10,iL,a12]:=h9.set 10 v10
 have h11:GB ((((((((((((W.setCell (aD B 0) v0).setCell (aD B 1) v1).setCell (aD B 2) v2).setCell (aD B 3) v3).setCell (aD B 4) v4).setCell (aD B 5) v5).setCell (aD B 6) v6).setCell (aD B 7) v7).setCell (aD B 8) v8).setCell (aD B 9) v9).setCell (aD B 10) v10).setCell (aD B 11) v11) B t #[v0,v1,v2,v3,v4,v5,v6,v7,v8,v9,v10,v11,a12]:=h10.set 11 v11;have h12:GB (((((((((((((W.setCell (aD B 0) v0).setCell (aD B 1) v1).setCell (aD B 2) v2).setCell (aD B 3) v3).setCell (aD B 4) v4).setCell (aD B 5) v5).setCell (aD B 6) v6).setCell (aD B 7) v7).setCell (aD B 8) v8).setCell (aD B 9) v9).setCell (aD B 10) v10).setCell (aD B 11) v11).setCell (aD B 12) v12) B t #[v0,v1,v2,v3,v4,v5,v6,v7,v8,v9,v10,v11,v12]:=h11.set 12 v12;exact h12
theorem World.rq(W:World)(B:Nat)(v0 v1 v2 v3 v4 v5 v6 v7 v8 v9 v10 v11 v12:Value):Kept (fun x=>x≠B) W (World.mr W B v0 v1 v2 v3 v4 v5 v6 v7 v8 v9 v10 v11 v12):=by
 unfold World.mr;exact(((((((((((((ZL _ (aD B 0) _ (fun h=>h rfl)).trans (ZL _ (aD B 1) _ (fun h=>h rfl))).trans (ZL _ (aD B 2) _ (fun h=>h rfl))).trans (ZL _ (aD B 3) _ (fun h=>h rfl))).trans (ZL _ (aD B 4) _ (fun h=>h rfl))).trans (ZL _ (aD B 5) _ (fun h=>h rfl))).trans (ZL _ (aD B 6) _ (fun h=>h rfl))).trans (ZL _ (aD B 7) _ (fun h=>h rfl))).trans (ZL _ (aD B 8) _ (fun h=>h rfl))).trans (ZL _ (aD B 9) _ (fun h=>h rfl))).trans (ZL _ (aD B 10) _ (fun h=>h rfl))).trans (ZL _ (aD B 11) _ (fun h=>h rfl))).trans (ZL _ (aD B 12) _ (fun h=>h rfl)))
theorem uA{v0 v1 v2 v3 v4 v5 v6 v7 v8 v9 v10 v11 v12:Value}(h:GB W B 90 #[v0,v1,v2,v3,v4,v5,v6,v7,v8,v9,v10,v11,v12]):(loadVar 90 (aD B 0)).run Tryz.prog W=.ok (.agg #[v0,v1,v2,v3,v4,v5,v6,v7,v8,v9,v10,v11,v12]) W:=by
 obtain⟨c0,c1,c2,c3,c4,c5,c6,c7,c8,c9,c10,c11,c12⟩:=h.k13;simp[go_sem,c0,c1,c2,c3,c4,c5,c6,c7,c8,c9,c10,c11,c12]
theorem Am(ao:Option Addr)(cap:Nat)(ts:List af)(q:ae)(w:World)(hx:aZ w ao ts)(hq:q.At w)(ok:Ok ts q) :
  Calls Tryz.prog 71 #[.slice ao ts.length cap,.agg q.cells] w fun e w'=>∃ f:au,e=.returned (.agg (f.cells ts q))/\f.At ts q w'/\f.New w.heap.size/\Bw w w':=by
 obtain⟨w1,hw1,hk1,hg1⟩:=aU w q.cells 26;obtain⟨w2,hw2,hk2,hg2⟩:=aU w1 #[.slice none 0 0,.slice none 0 0,.bool false,.slice none 0 0,.slice none 0 0,.slice none 0 0,.slice none 0 0,.slice none 0 0,.int .u64 0,.int .u64 0,.slice none 0 0,.slice none 0 0,.slice none 0 0] 90;have hc1:=hk2;have hc0:=aA hk1 hc1;have iq:=hg1.of (hc1.block _ hg1.lt);obtain⟨dJ,dY,dH,dW,dZ,eU,eH⟩:=iq.k7;have kI:=hg2;have hsm:=ok.small;have hwm:=ok.mP;obtain⟨S,hS⟩:∃ S,S=2 ^ q.src.xs.length-1:=⟨_,rfl⟩
 obtain⟨C,hC⟩:∃ C,C=2 ^ q.wh.length-1:=⟨_,rfl⟩
 have HS:=Zh hS;have HCC:=Zh hC;have hFO:Hid (∀ x,Ce 124 #[.int .i64 (q.src.xs.length:Int)] x (.int .u64 (S:Int))):=fun x=>by rw[hS]; exact uR q.src.xs.length hsm x
 have hFW:Hid (∀ x,Ce 124 #[.int .i64 (q.wh.length:Int)] x (.int .u64 (C:Int))):=fun x=>by rw[hC]; exact uR q.wh.length hwm x
 clear hS hC;have HX:Hid _:=hx.below hc0;have HQ:=Zh (hq.below hc0);have HQ0:=Zh hq;have HWW:=Zh hk1.size;have AX:=Zh ok;have HC0:=Zh hc0;have yT:=Zh hc1;have hsl:=hq.src.1;have hwl:=hq.wh.1;clear hx hq ok hc0 hc1 hk1 hk2 hg1 hg2 iq;have qp:Hid _:=kI;clear kI;obtain⟨⟨sa,sc,src⟩,bY,aI,wh,group,⟨ka,kc,keys⟩,⟨ua,uc,sums⟩,⟨ea,ec,aV⟩,⟨da,dc,ord⟩⟩:=q;unfold ae.cells ah.val at *;simp only at *;go_enter Tryz.func71,Tryz.ntmps71;go_upto_region 1 with fail;go_cut [5] from 13 to 22 (fun c wx=>c=.pointer (some (aD w2.heap.size 0))/\GB wx w2.heap.size 90 #[.slice sa src.length sc,.slice bY wh.length aI,.bool group,.slice ka keys.length kc,.slice ua sums.length uc,.slice ea aV.length ec,.slice da ord.length dc,.slice none 0 0,.int .u64 (S:Int),.int .u64 (C:Int),.slice none 0 0,.slice none 0 0,.slice none 0 0]/\Bw w2 wx)
 case first=>
  refine wH w2 fun hS=>?_
  refine wT 0 (.agg #[.slice sa src.length sc,.slice bY wh.length aI,.bool group,.slice ka keys.length kc,.slice ua sums.length uc,.slice ea aV.length ec,.slice da ord.length dc]) hS (fun x hx=>?_) ?_
  ·have e0:=IJ hx dJ dY dH dW dZ eU eH;go_simp
  refine wt 1 (.pointer (some (aD w.heap.size 0))) hS ?_;refine lH 2 (.slice sa src.length sc) hS dJ ?_;refine wt 3 (.int .i64 (src.length:Int)) hS ?_;refine wt 5 (.pointer (some (aD w.heap.size 1))) hS ?_;refine lH 6 (.slice bY wh.length aI) hS dY ?_;refine wt 7 (.int .i64 (wh.length:Int)) hS ?_;refine wJ 4 10 (fun K hK=>?_) fun K hK=>?_
  ·skip;go_simp;refine Xt (hFO.o _) ?_;rintro e wz ⟨rfl,rfl⟩;refine hK.o _ _ hS fun hS=>?_
   clear hK K;refine wJ 8 10 (fun K hK=>?_) fun K hK=>?_
   ·skip;go_simp;refine Xt (hFW.o _) ?_;rintro e wz ⟨rfl,rfl⟩;refine hK.o _ _ hS fun hS=>?_
    clear hK K;refine wt 9 (.agg #[.slice sa src.length sc,.slice bY wh.length aI,.bool group,.slice ka keys.length kc,.slice ua sums.length uc,.slice ea aV.length ec,.slice da ord.length dc,.slice none 0 0,.int .u64 (S:Int),.int .u64 (C:Int),.slice none 0 0,.slice none 0 0,.slice none 0 0]) hS ?_;refine wR 10 fun K hK=>?_
    go_simp;refine oA hK hS fun hS=>?_
    clear hK K;refine wR 11 fun K hK=>?_
    go_simp;refine hK.o _ _ ((dn _ _).drew) (fun hS=>?_);clear hK K;refine wD ?_
    try simp only[pU]
    go_wp2_with fail;go_meet;exact⟨rfl,l6 w2 _,hS⟩
   ·skip;go_simp;refine oA hK hS fun hS=>?_
    clear hK K;refine wR 8 fun K hK=>?_
    go_simp;refine Xt (hFW.o _) ?_;rintro e wz ⟨rfl,rfl⟩;refine hK.o _ _ hS fun hS=>?_
    clear hK K;refine wt 9 (.agg #[.slice sa src.length sc,.slice bY wh.length aI,.bool group,.slice ka keys.length kc,.slice ua sums.length uc,.slice ea aV.length ec,.slice da ord.length dc,.slice none 0 0,.int .u64 (S:Int),.int .u64 (C:Int),.slice none 0 0,.slice none 0 0,.slice none 0 0]) hS ?_;refine wR 11 fun K hK=>?_
    go_simp;refine hK.o _ _ ((dn _ _).drew) (fun hS=>?_);clear hK K;refine wD ?_
    try simp only[pU]
    go_wp2_with fail;go_meet;exact⟨rfl,l6 w2 _,hS⟩
  ·skip;go_simp;refine oA hK hS fun hS=>?_
   clear hK K;refine wR 4 fun K hK=>?_
   go_simp;refine Xt (hFO.o _) ?_;rintro e wz ⟨rfl,rfl⟩;refine hK.o _ _ hS fun hS=>?_
   clear hK K;refine wR 8 fun K hK=>?_
   go_simp;refine Xt (hFW.o _) ?_;rintro e wz ⟨rfl,rfl⟩;refine hK.o _ _ hS fun hS=>?_
   clear hK K;refine wt 9 (.agg #[.slice sa src.length sc,.slice bY wh.length aI,.bool group,.slice ka keys.length kc,.slice ua sums.length uc,.slice ea aV.length ec,.slice da ord.length dc,.slice none 0 0,.int .u64 (S:Int),.int .u64 (C:Int),.slice none 0 0,.slice none 0 0,.slice none 0 0]) hS ?_;refine wR 11 fun K hK=>?_
   go_simp;refine hK.o _ _ ((dn _ _).drew) (fun hS=>?_);clear hK K;refine wD ?_
   try simp only[pU]
   go_wp2_with fail;go_meet;exact⟨rfl,l6 w2 _,hS⟩
 case rest=>
 obtain⟨rfl,hgf,hb3⟩:=hcut;obtain⟨w3,hw3⟩:∃ x,x=wc:=⟨_,rfl⟩
 subst hw3;have uB:Hid (∀ x,Kept (fun b=>b≠w2.heap.size) w3 x->Bw w2 x):=fun x hk=>hb3.trans (hk.below hb3.size (fun b hb=>Nat.ne_of_lt hb))
 have HGF:Hid _:=hgf;have hlt3:=hgf.lt;have n0:=cB hb3 dJ;clear hgf hb3 hw1 hw2 hFO hFW;go_wp2;go_loopw [26] (fun iv wr=>∃ k:Nat,k<=src.length/\iv=.int .i64 k/\∃ cv rv,Hid (GB wr w2.heap.size 90 #[.slice sa src.length sc,.slice bY wh.length aI,.bool group,.slice ka keys.length kc,.slice ua sums.length uc,.slice ea aV.length ec,.slice da ord.length dc,cv,.int .u64 (S:Int),.int .u64 (C:Int),rv,.slice none 0 0,.slice none 0 0])/\Hid (wr.ownsRow w3.heap.size 195 2 cv (bS ts src k).length ((bS ts src k).flatMap jw))/\Hid (wr.ownsRow w3.heap.size 36 1 rv (mG ts src k).length ((mG ts src k).map fun (x:Nat)=>.int .u64 (x:Int)))/\Hid (Kept (fun b=>b≠w2.heap.size) w3 wr)) (fun iv _=>src.length-(intOf iv).toNat)
 case atStart=>exact⟨0,Q8 _,rfl,.slice none 0 0,.slice none 0 0,HGF.o,ZV _ _ _ _,ZV _ _ _ _,Zn _ _⟩
 case round=>
  obtain⟨k,hk,rfl,cv,rv,HG,nG,OY,qG⟩:=hrel;have hbw:=uB.o wr qG.o;have q0:=cB hbw dJ;by_cases hlt:k<src.length
  ·obtain⟨sb,so,rfl,hsc⟩:=Qj (Qv hbw HQ.o.src) hlt;have hck:=hsc k hlt;obtain⟨hx0,hx1⟩:=xB AX.o.src hlt;obtain⟨n,hn⟩:=Xo hx0;have Tk:wr.cell? (aD sb (so+k))=some (.int .i64 (n:Int)):=by rw[hck]; show some (Value.int .i64 (src.getD k 0))=_; rw[hn]
   have hn':n<ts.length:=by have h:src.getD k 0<(ts.length:Int):=hx1; rw[hn]at h; omega
   obtain⟨tb,tof,rfl,c0,c1,c2,c3,c4,c5⟩:=(aZ.below hbw HX.o).2 n hn';have htb:=xu AX.o.cat hn';have HRS:Hid (mG ts src (k+1)=mG ts src k++[(ts.getD n tz).rows.toNat]):=by
    show _=_
    rw[J3];unfold rE;rw[Zj,show (src.getD k 0).toNat=n by rw[hn]; rfl]
   have Oc:Hid (bS ts src (k+1)=bS ts src k++(List.range (ts.getD n tz).aO.toNat).map fun m=>(k,(ts.getD n tz).kd m)):=by
    show _=_
    rw[kN,show (src.getD k 0).toNat=n by rw[hn]; rfl]
   have JV:Hid (∀ m,(bS ts src k++((List.range (m+1)).map fun m=>(k,(ts.getD n tz).kd m))).flatMap jw=(bS ts src k++((List.range m).map fun m=>(k,(ts.getD n tz).kd m))).flatMap jw++jw (k,(ts.getD n tz).kd m)):=fun m=>by
    have:=TV ts src k m;rw[show (src.getD k 0).toNat=n by rw[hn]; rfl]at this;exact this
   have qI:Hid ((bS ts src k).length<=4*k):=zh AX.o.cat AX.o.src hsm k (by omega);have HRL:=Zh (nQ ts src k);unfold dV at htb;rw[QJ]at htb;obtain⟨tb1,tb2,tb3,tb4,tb5⟩:=htb;have Wv:=Zh tb5;clear hsc hck hx0 hx1 hn tb5;generalize bS ts src k=CK at *;generalize ts.getD n tz=t at *;obtain⟨R,hR⟩:=Xo tb3;obtain⟨cn,hcn⟩:=Xo (show 0<=t.aO by omega);rw[hR]at c1 tb4;rw[hcn]at c0 tb1 tb2;rw[hR,Zj]at HRS;rw[hcn,Zj]at Oc Wv;obtain⟨wb,hwb,hkb,hgb⟩:=aU wr #[.int .i64 (cn:Int),.int .i64 (R:Int),.int .i64 t.k0,.int .i64 t.k1,.int .i64 t.k2,.int .i64 t.k3] 80;have b1:=hgb.at 1;clear hR hcn tb3;obtain⟨ra,rm,rc,rfl⟩:=ZP OY.o;have adv:=HG.o.of (hkb.block _ HG.o.lt);have f10:=adv.at 10;have adw:=Xh OY.o hkb;have al7:=Zl qG.o.size hkb.size;obtain⟨v',w5,vE,ug,hk5,⟨va,vm,vc,rfl⟩,hat⟩:=Li wb w3.heap.size (.slice ra rm rc) (mG ts src k) adw (by rw[HRL.o]; omega) al7 R 87;rw[<- HRS.o]at ug;obtain⟨g5,gY,oY,kY⟩:=xH Tryz.Lh adv adw ug hk5 hat 10;have f5:=g5.at 10;have z5:=g5.frozen 10;obtain⟨Y,hY⟩:=eX (w5.setCell (aD w2.heap.size 10) (.slice va vm vc))
   rw[hY]at gY oY kY;have hGY:GB Y w2.heap.size 90 #[.slice (some (aD sb so)) src.length sc,.slice bY wh.length aI,.bool group,.slice ka keys.length kc,.slice ua sums.length uc,.slice ea aV.length ec,.slice da ord.length dc,cv,.int .u64 (S:Int),.int .u64 (C:Int),.slice va vm vc,.slice none 0 0,.slice none 0 0]:=gY;have ahW:wr.heap.size≠w2.heap.size:=by have:=HG.o.lt; omega
   have ahX:∀ b,(Value.slice ra rm rc).ownBlock=some b->w3.heap.size<=b/\b<wr.heap.size:=fun b h=>ZO OY.o h
   have ahY:=hgb.keep kY ⟨ahW,fun e=>by have:=(ahX _ e).2; omega⟩;have HKY:=Zh ((qG.o.trans (Zo hkb (fun b hb _=>hb))).trans' kY (fun b hb h=>⟨h,fun e=>by have:=(ahX _ e).1; omega⟩));have HCY:=Zh (ZN (Xh nG.o hkb) kY (fun g hg=>⟨fun e=>mY Tryz.Sg (Xh nG.o hkb) adv (by rw[hg,e]),xG Tryz.afu (Xh nG.o hkb) adw hg⟩));have y0:=ahY.at 0;have R3:=hd ahY;have HGY:Hid _:=hGY;have HOY:Hid _:=oY;have zi:Hid _:=ahW;clear gY hGY oY kY ahY ahX ug hk5 hat adw adv g5 hgb OY nG HG HRS al7 qG ahW;go_wp2_with (first | (at_builtin; refine Z8 rfl (.tmp 36) (.tmp 40) 87 rfl (.slice ra rm rc) (.slice (some (aD wb.heap.size 0)) 1 1) (.slice va vm vc) w5 rfl rfl vE ?_));clear vE;go_wp2;clear hY hwb f5 z5 f10 b1 hkb;obtain⟨w9,hw9⟩:∃ x,x=wr:=⟨_,rfl⟩
   subst hw9;go_loopw [48] (fun jv wx=>∃ m:Nat,m<=cn/\jv=.int .i64 m/\∃ cx,Hid (GB wx w2.heap.size 90 #[.slice (some (aD sb so)) src.length sc,.slice bY wh.length aI,.bool group,.slice ka keys.length kc,.slice ua sums.length uc,.slice ea aV.length ec,.slice da ord.length dc,cx,.int .u64 (S:Int),.int .u64 (C:Int),.slice va vm vc,.slice none 0 0,.slice none 0 0])/\Hid (wx.ownsRow w3.heap.size 195 2 cx (CK.length+m) ((CK++((List.range m).map fun m=>(k,t.kd m))).flatMap jw))/\Hid (wx.ownsRow w3.heap.size 36 1 (.slice va vm vc) (mG ts src (k+1)).length ((mG ts src (k+1)).map fun (x:Nat)=>.int .u64 (x:Int)))/\Hid (Kept (fun b=>b≠w2.heap.size) w3 wx)/\Hid (GB wx w9.heap.size 80 #[.int .i64 (cn:Int),.int .i64 (R:Int),.int .i64 t.k0,.int .i64 t.k1,.int .i64 t.k2,.int .i64 t.k3])) (fun jv _=>cn-(intOf jv).toNat)
   case atStart=>exact⟨0,Q8 _,rfl,cv,HGY.o,by show Hid _; rw[List.range_zero,List.map_nil,Xx]; exact HCY.o,HOY.o,HKY.o,R3.o⟩
   case round=>
    obtain⟨m,hm,rfl,cx,HGX,HCX,Ww,KZ,HTX⟩:=hrel;by_cases Pp:m<cn
    ·obtain⟨hka,hkb2⟩:=Wv.o m Pp;have kcl:=al6 HTX.o (m:=m) (by omega);obtain⟨kn,hkn⟩:=Xo (show 0<=t.kd m by omega);have oz:=Zh (JV.o m);rw[hkn]at kcl hkb2 oz;clear hka hkn;obtain⟨ca,cm,cc,rfl⟩:=ZP HCX.o;have f7:=HGX.o.at 7;have asq:=KZ.o.size;obtain⟨v',w5,vE,ug,hk5,⟨na,nm,nc,rfl⟩,hat⟩:=aan wr w3.heap.size (.slice ca cm cc) (CK.length+m) _ HCX.o (by have:=qI.o; omega) asq k (kn:Int) 84;rw[<- oz.o]at ug;obtain⟨g5,gZ,oZ,kZ⟩:=xH Tryz.Sg HGX.o HCX.o ug hk5 hat 7;have f5:=g5.at 7;have z5:=g5.frozen 7;obtain⟨Z,hZ⟩:=eX (w5.setCell (aD w2.heap.size 7) (.slice na nm nc))
     rw[hZ]at gZ oZ kZ;have HGZ:=hd gZ;have HOZ:Hid _:=oZ;have hlo:=fun b h=>ZO HCX.o (g:=b) h
     have HTZ:=Zh (HTX.o.keep kZ ⟨zi.o,mY Tryz.al5 HCX.o HTX.o⟩);have HRZ:=Zh (ZN Ww.o kZ (fun g hg=>⟨fun e=>mY Tryz.Lh Ww.o HGX.o (by rw[hg,e]),fun e=>xG Tryz.afu HCX.o Ww.o e hg⟩));have HKZ:=Zh (KZ.o.trans' kZ (fun b hb h=>⟨h,fun e=>by have:=(hlo _ e).1; omega⟩));clear gZ oZ kZ hk5 hat g5 ug hlo oz HGX HCX Ww KZ HTX HGY HCY HOY HKY R3 Oc;go_wp2_with (first | (at_builtin; refine Z8 rfl (.tmp 53) (.tmp 58) 84 rfl (.slice ca cm cc) (.slice (some (aD wr.heap.size 0)) 1 1) (.slice na nm nc) w5 rfl rfl vE ?_));clear vE;go_wp2;go_roundw
     case rel=>exact⟨m+1,by omega,by go_num,.slice na nm nc,HGZ.o,HOZ.o,HRZ.o,HKZ.o,HTZ.o⟩
     case measure=>simp[intOf]; omega
    ·obtain rfl:m=cn:=by omega
     clear HGY HCY HOY HKY R3 JV;go_wp2;go_roundw
     case rel=>
      refine⟨k+1,by omega,by go_num,cx,.slice va vm vc,HGX.o,?_,Ww.o,KZ.o⟩;have h:=HCX.o;have e:=Zh Oc.o
      show Hid _
      rw[e.o,Zb,Zc,Zd];exact h
     case measure=>simp[intOf]; omega
  ·obtain rfl:k=src.length:=by omega
   obtain⟨w4,hw4⟩:∃ x,x=wr:=⟨_,rfl⟩
   subst hw4;have qI:Hid ((bS ts src src.length).length<=4*src.length):=zh AX.o.cat AX.o.src hsm src.length (Qx _);obtain⟨ca,cc,rfl,-⟩:=BI nG.o (by have:=qI.o; omega);obtain⟨ra,rc,rfl,-⟩:=pY OY.o (by rw[nQ]; omega);rw[nQ]at HG OY;obtain⟨CL,OI⟩:=eY (aF ts ⟨⟨sa,sc,src⟩,bY,aI,wh,group,⟨ka,kc,keys⟩,⟨ua,uc,sums⟩,⟨ea,ec,aV⟩,⟨da,dc,ord⟩⟩)
   obtain⟨PL,hPL⟩:=eY (uQ ts ⟨⟨sa,sc,src⟩,bY,aI,wh,group,⟨ka,kc,keys⟩,⟨ua,uc,sums⟩,⟨ea,ec,aV⟩,⟨da,dc,ord⟩⟩)
   have ama:=Zh OI;have amb:=Zh hPL;have U2:Hid (CL.length=wh.length):=by rw[OI]; exact Xa ts ⟨⟨sa,sc,src⟩,bY,aI,wh,group,⟨ka,kc,keys⟩,⟨ua,uc,sums⟩,⟨ea,ec,aV⟩,⟨da,dc,ord⟩⟩
   have U3:Hid (PL.length=wh.length):=by rw[hPL]; exact Fe ts ⟨⟨sa,sc,src⟩,bY,aI,wh,group,⟨ka,kc,keys⟩,⟨ua,uc,sums⟩,⟨ea,ec,aV⟩,⟨da,dc,ord⟩⟩
   clear OI hPL;have ahZ:Hid (∀ x,Kept (fun b=>b≠w2.heap.size) w4 x->iF x ca (bS ts src src.length)):=fun x hk=>by
    obtain⟨a,c,e,h⟩:=BI (ZN nG.o hk (fun g hg e=>mY Tryz.Sg nG.o HG.o (by rw[hg,e]))) (by have:=qI.o; omega)
    cases e
    exact h
   have n1:=cB hbw dY;clear hbw q0 hk hlt;go_wp2;go_loopw [66] (fun iv wr=>∃ i:Nat,i<=wh.length/\iv=.int .i64 i/\∃ nv pv,Hid (GB wr w2.heap.size 90 #[.slice sa src.length sc,.slice bY wh.length aI,.bool group,.slice ka keys.length kc,.slice ua sums.length uc,.slice ea aV.length ec,.slice da ord.length dc,.slice ca (bS ts src src.length).length cc,.int .u64 (S:Int),.int .u64 (C:Int),.slice ra src.length rc,nv,pv])/\Hid (wr.ownsRow w4.heap.size 86 1 (nv) (CL.take i).length ((CL.take i).map fun (x:Nat)=>.int .u64 (x:Int)))/\Hid (wr.ownsRow w4.heap.size 36 1 (pv) (PL.take i).length ((PL.take i).map fun (x:Nat)=>.int .u64 (x:Int)))/\Hid (Kept (fun b=>b≠w2.heap.size) w4 wr)) (fun iv _=>wh.length-(intOf iv).toNat)
   case atStart=>exact⟨0,Q8 _,rfl,.slice none 0 0,.slice none 0 0,HG.o,ZV _ _ _ _,ZV _ _ _ _,Zn _ _⟩
   case round=>
    obtain⟨i,hi,rfl,nv,pv,HNG,Lj,YB,HNK⟩:=hrel;have aao:=uB.o wr (qG.o.trans HNK.o);by_cases Ex:i<wh.length
    ·obtain⟨cb,co,O9,hcc⟩:=Qi (HQ.o.below aao).wh.2.1 Ex;have hci:wr.cell? (aD cb (co+i))=some ((wh.getD i lz).val):=hcc i Ex;obtain⟨xcl,Ll⟩:∃ x,x=wh.getD i lz:=⟨_,rfl⟩
     have hcs:bH wr xcl.ad xcl.cs:=by rw[Ll]; exact(HQ.o.below aao).wh.2.2 i Ex
     have hcs2:bH w2 xcl.ad xcl.cs:=by rw[Ll]; exact HQ.o.wh.2.2 i Ex
     have kS:gB ts ⟨⟨sa,sc,src⟩,bY,aI,wh,group,⟨ka,kc,keys⟩,⟨ua,uc,sums⟩,⟨ea,ec,aV⟩,⟨da,dc,ord⟩⟩ (cO xcl.cs):=by rw[Ll]; exact AX.o.aO i Ex
     have hsome:0<xcl.cs.length:=by rw[Ll]; exact AX.o.some i Ex
     have HCG:Hid (CL.getD i 0=bE (dD ts src xcl.cs)):=by show _=_; rw[ama.o,Ll]; exact yZ ts ⟨⟨sa,sc,src⟩,bY,aI,wh,group,⟨ka,kc,keys⟩,⟨ua,uc,sums⟩,⟨ea,ec,aV⟩,⟨da,dc,ord⟩⟩ Ex
     have HPG:Hid (PL.getD i 0=jE ts src xcl.cs):=by show _=_; rw[amb.o,Ll]; exact ze ts ⟨⟨sa,sc,src⟩,bY,aI,wh,group,⟨ka,kc,keys⟩,⟨ua,uc,sums⟩,⟨ea,ec,aV⟩,⟨da,dc,ord⟩⟩ Ex
     rw[<- Ll]at hci;clear Ll hcc;subst O9;obtain⟨ad,ccp,cs⟩:=xcl;unfold aH.val at hci;simp only at hci hcs hcs2 kS hsome HCG HPG;obtain⟨w8,hw8⟩:∃ x,x=wr:=⟨_,rfl⟩
     subst hw8;obtain⟨xa,xm,xc,rfl⟩:=ZP Lj.o;obtain⟨pa,pm,pc,rfl⟩:=ZP YB.o;obtain⟨wb,hwb,hkb,amc⟩:=aU w8 #[.slice ad cs.length ccp] 132;have hcb:=amc.at 0;have vg:=Zh (HNG.o.of (hkb.block _ HNG.o.lt));have HNb:=Zh (Xh Lj.o hkb);have HPb:=Zh (Xh YB.o hkb);have HKb:=Zh (HNK.o.trans (Zo hkb (fun b hb _=>hb)));have HBN:Hid (w8.heap.size≠w2.heap.size):=fun e=>by have:=HNG.o.lt; omega
     have aap:Hid (w8.heap.size≠w2.heap.size/\(Value.slice xa xm xc).ownBlock≠some w8.heap.size):=⟨HBN.o,fun e=>by have:=(ZO Lj.o e).2; omega⟩
     have ass:Hid ((Value.slice pa pm pc).ownBlock≠some w8.heap.size):=fun e=>by have:=(ZO YB.o e).2; omega
     have ast:Hid _:=bH.below hkb hcs;have asu:=hd hcs2;have ame:Hid _:=kS;have asv:=Zh hsome;have HTC:=Zh (FU (by rw[U2.o]; exact Ex));have HTP:=Zh (FU (by rw[U3.o]; exact Ex));generalize CL.getD i 0=cgi at *;generalize PL.getD i 0=pgi at *;have adA:Hid (∀ x,Bw wb x->Cb 125 #[.agg #[.slice sa src.length sc,.slice (some (aD cb co)) wh.length aI,.bool group,.slice ka keys.length kc,.slice ua sums.length uc,.slice ea aV.length ec,.slice da ord.length dc,.slice ca (bS ts src src.length).length cc,.int .u64 (S:Int),.int .u64 (C:Int),.slice ra src.length rc,.slice xa xm xc,.slice pa pm pc],.agg #[.slice ad cs.length ccp]] x (.int .u64 ((cgi:Nat):Int))):=fun x hx=>by
      have h:=GH ⟨ca,cc,ra,rc,xa,xm,xc,pa,pm,pc⟩ ts ⟨⟨sa,sc,src⟩,some (aD cb co),aI,wh,group,⟨ka,kc,keys⟩,⟨ua,uc,sums⟩,⟨ea,ec,aV⟩,⟨da,dc,ord⟩⟩ ad ccp cs x AX.o (ahZ.o x (HKb.o.trans (Zo hx (fun b hb _=>hb)))) (bH.below hx (ast.o)) ame.o;simp only[au.cells,ah.val,iP]at h;rw[<- HS.o,<- HCC.o]at h;rw[HCG.o];exact h
     have M5:Hid (∀ w6,Bw wb w6->∃ ya ym yc w7,(Builtin.append_ #[88,88] 88 #[.slice xa xm xc,.slice (some (aD w6.heap.size 0)) 1 1]).run Tryz.prog (w6.alloc (.cells #[.int .u64 ((cgi:Nat):Int)] 86))=.ok (.slice ya ym yc) w7/\Kept (fun b=>b≠w2.heap.size/\(Value.slice xa xm xc).ownBlock≠some b) wb w7/\
       w7.cell? (aD w2.heap.size 11)=some (.slice xa xm xc)/\w7.frozen? (aD w2.heap.size 11)=false/\Kept (fun b=>b≠w2.heap.size/\(Value.slice xa xm xc).ownBlock≠some b) wb (w7.setCell (aD w2.heap.size 11) (.slice ya ym yc))/\∃ nx,GB (w7.setCell (aD w2.heap.size 11) (.slice ya ym yc)) w2.heap.size 90 #[.slice sa src.length sc,.slice (some (aD cb co)) wh.length aI,.bool group,.slice ka keys.length kc,.slice ua sums.length uc,.slice ea aV.length ec,.slice da ord.length dc,.slice ca (bS ts src src.length).length cc,.int .u64 (S:Int),.int .u64 (C:Int),.slice ra src.length rc,nx,.slice pa pm pc]/\(w7.setCell (aD w2.heap.size 11) (.slice ya ym yc)).ownsRow w4.heap.size 86 1 (nx) (CL.take (i+1)).length ((CL.take (i+1)).map fun (x:Nat)=>.int .u64 (x:Int))/\(w7.setCell (aD w2.heap.size 11) (.slice ya ym yc)).ownsRow w4.heap.size 36 1 (.slice pa pm pc) (PL.take i).length ((PL.take i).map fun (x:Nat)=>.int .u64 (x:Int))/\Kept (fun b=>b≠w2.heap.size) w4 (w7.setCell (aD w2.heap.size 11) (.slice ya ym yc))/\(w7.setCell (aD w2.heap.size 11) (.slice ya ym yc)).cell? (aD w8.heap.size 0)=some (.slice ad cs.length ccp)):=fun w6 hb6=>by
      have g6:=vg.o.of (hb6.block _ vg.o.lt);have o6:=Xh HNb.o hb6;have k6:Kept (fun _=>True) wb w6:=Zo hb6 (fun b hb _=>hb);obtain⟨v',w7,pQ,KI,lu,⟨ya,ym,yc,rfl⟩,hat⟩:=aam w6 w4.heap.size (.slice xa xm xc) (CL.take i) o6 (by rw[Zm]; have:=U2.o; omega) (Zl HKb.o.size hb6.size) cgi 88;rw[<- HTC.o]at KI;obtain⟨g7,gZ,oZ,kZ⟩:=xH Tryz.aft g6 o6 KI lu hat 11;refine⟨ya,ym,yc,w7,pQ,(k6.mono fun _ _ _=>trivial).trans (lu.mono fun _ _ h=>h.2),g7.cell 11,g7.frozen 11,(k6.mono fun _ _ _=>trivial).trans kZ,.slice ya ym yc,gZ,oZ,ZN (Xh HPb.o hb6) kZ (fun g hg=>⟨fun e=>mY Tryz.Lh (Xh HPb.o hb6) g6 (by rw[hg,e]),fun e=>xG Tryz.afv o6 (Xh HPb.o hb6) e hg⟩),HKb.o.trans' ((k6.mono fun _ _ _=>trivial).trans kZ) (fun b hb h=>⟨h,fun e=>by have:=(ZO HNb.o e).1; omega⟩),ZI (cB hb6 hcb) kZ aap.o⟩
     have fL:=vg.o.at 11;have cf0:=vg.o.at 0;have cf1:=vg.o.at 1;have cf2:=vg.o.at 2;have cf3:=vg.o.at 3;have cf4:=vg.o.at 4;have cf5:=vg.o.at 5;have cf6:=vg.o.at 6;have cf7:=vg.o.at 7;have cf8:=vg.o.at 8;have cf9:=vg.o.at 9;have Pq:=vg.o.at 10;have amf:=vg.o.at 12;clear amc hkb hcs hcs2 kS hsome HNG Lj YB HNK aao HG nG OY;go_upto_region 16 with fail;clear hwb hci;go_cut [66] from 66 to 86 (fun iv wx=>iv=.int .i64 (i:Int)/\∃ nv,GB wx w2.heap.size 90 #[.slice sa src.length sc,.slice (some (aD cb co)) wh.length aI,.bool group,.slice ka keys.length kc,.slice ua sums.length uc,.slice ea aV.length ec,.slice da ord.length dc,.slice ca (bS ts src src.length).length cc,.int .u64 (S:Int),.int .u64 (C:Int),.slice ra src.length rc,nv,.slice pa pm pc]/\wx.ownsRow w4.heap.size 86 1 (nv) (CL.take (i+1)).length ((CL.take (i+1)).map fun (x:Nat)=>.int .u64 (x:Int))/\wx.ownsRow w4.heap.size 36 1 (.slice pa pm pc) (PL.take i).length ((PL.take i).map fun (x:Nat)=>.int .u64 (x:Int))/\Kept (fun b=>b≠w2.heap.size) w4 wx/\wx.cell? (aD w8.heap.size 0)=some (.slice ad cs.length ccp))
     case first=>
      refine QX (S:=fun x=>Kept (fun b=>b≠w2.heap.size/\(Value.slice xa xm xc).ownBlock≠some b) wb x) (by kernel_rfl) (Zo ((Qw _ _).drew) (fun b hb _=>hb)) (fun hS=>?_);refine wt 0 (.pointer (some (aD w2.heap.size 11))) hS ?_;refine wT 3 (.agg #[.slice ad cs.length ccp]) hS (fun x hx=>?_) ?_
      ·have e0:=ZI hcb hx aap.o;go_simp
      refine wJ 1 2 (fun K hK=>?_) fun K hK=>?_
      ·skip;go_simp;refine hK.o _ _ hS fun hS=>?_
       clear hK K;refine wR 2 fun K hK=>?_
       go_simp;refine hK.o _ _ hS fun hS=>?_
       clear hK K;refine wR 4 fun K hK=>?_
       go_simp;refine Xt (adA.o _ ((Qw _ _).drew)) ?_;rintro e w6 ⟨rfl,hb6⟩;have hb6:Bw wb w6:=((Qw _ _).drew).trans hb6;have f6:=cB hb6 fL;refine hK.o _ _ (Zo hb6 (fun b hb _=>hb)) (fun hS=>?_);clear hK K;refine wR 5 fun K hK=>?_
       go_simp;refine hK.o _ _ (hS.trans (Zr _ _)) (fun hS=>?_);clear hK K;refine wR 6 fun K hK=>?_
       obtain⟨ya,ym,yc,w7,pQ,hs7,f7,z7,Hu,Ps⟩:=M5.o w6 hb6;refine Xy (by rfl) _ _ _ (by rfl) (.slice xa xm xc) (.slice (some (aD w6.heap.size 0)) 1 1) (.slice ya ym yc) w7 (by rfl) (by rfl) pQ ?_;refine hK.o _ _ hs7 fun hS=>?_
       clear hK K pQ;refine wR 7 fun K hK=>?_
       go_simp;refine hK.o _ _ hS fun hS=>?_
       clear hK K;refine wR 8 fun K hK=>?_
       go_simp;refine hK.o _ _ Hu fun hS=>?_
       clear hK K;refine wD ?_
       try simp only[pU]
       go_wp2_with fail;go_meet;exact⟨rfl,Ps⟩
      ·skip;go_simp;refine hK.o _ _ hS fun hS=>?_
       clear hK K;refine wJ 1 4 (fun K hK=>?_) fun K hK=>?_
       ·skip;go_simp;refine hK.o _ _ hS fun hS=>?_
        clear hK K;refine wR 4 fun K hK=>?_
        go_simp;refine Xt (adA.o _ ((Qw _ _).drew)) ?_;rintro e w6 ⟨rfl,hb6⟩;have hb6:Bw wb w6:=((Qw _ _).drew).trans hb6;have f6:=cB hb6 fL;refine hK.o _ _ (Zo hb6 (fun b hb _=>hb)) (fun hS=>?_);clear hK K;refine wR 5 fun K hK=>?_
        go_simp;refine hK.o _ _ (hS.trans (Zr _ _)) (fun hS=>?_);clear hK K;refine wR 6 fun K hK=>?_
        obtain⟨ya,ym,yc,w7,pQ,hs7,f7,z7,Hu,Ps⟩:=M5.o w6 hb6;refine Xy (by rfl) _ _ _ (by rfl) (.slice xa xm xc) (.slice (some (aD w6.heap.size 0)) 1 1) (.slice ya ym yc) w7 (by rfl) (by rfl) pQ ?_;refine hK.o _ _ hs7 fun hS=>?_
        clear hK K pQ;refine wR 7 fun K hK=>?_
        go_simp;refine hK.o _ _ hS fun hS=>?_
        clear hK K;refine wR 8 fun K hK=>?_
        go_simp;refine hK.o _ _ Hu fun hS=>?_
        clear hK K;refine wD ?_
        try simp only[pU]
        go_wp2_with fail;go_meet;exact⟨rfl,Ps⟩
       ·skip;go_simp;refine Xt (adA.o _ ((Qw _ _).drew)) ?_;rintro e w6 ⟨rfl,hb6⟩;have hb6:Bw wb w6:=((Qw _ _).drew).trans hb6;have f6:=cB hb6 fL;refine hK.o _ _ (Zo hb6 (fun b hb _=>hb)) (fun hS=>?_);clear hK K;refine wJ 1 5 (fun K hK=>?_) fun K hK=>?_
        ·skip;go_simp;refine hK.o _ _ hS fun hS=>?_
         clear hK K;refine wR 5 fun K hK=>?_
         go_simp;refine hK.o _ _ (hS.trans (Zr _ _)) (fun hS=>?_);clear hK K;refine wR 6 fun K hK=>?_
         obtain⟨ya,ym,yc,w7,pQ,hs7,f7,z7,Hu,Ps⟩:=M5.o w6 hb6;refine Xy (by rfl) _ _ _ (by rfl) (.slice xa xm xc) (.slice (some (aD w6.heap.size 0)) 1 1) (.slice ya ym yc) w7 (by rfl) (by rfl) pQ ?_;refine hK.o _ _ hs7 fun hS=>?_
         clear hK K pQ;refine wR 7 fun K hK=>?_
         go_simp;refine hK.o _ _ hS fun hS=>?_
         clear hK K;refine wR 8 fun K hK=>?_
         go_simp;refine hK.o _ _ Hu fun hS=>?_
         clear hK K;refine wD ?_
         try simp only[pU]
         go_wp2_with fail;go_meet;exact⟨rfl,Ps⟩
        ·skip;go_simp;refine hK.o _ _ (hS.trans (Zr _ _)) (fun hS=>?_);clear hK K;have f6a:(w6.alloc (.cells #[.int .u64 (cgi:Int)] 86)).cell? (aD w2.heap.size 11)=some (.slice xa xm xc):=cB (dn _ _) f6;refine wR 1 fun K hK=>?_
         go_simp;refine hK.o _ _ hS fun hS=>?_
         clear hK K;refine wR 6 fun K hK=>?_
         obtain⟨ya,ym,yc,w7,pQ,hs7,f7,z7,Hu,Ps⟩:=M5.o w6 hb6;refine Xy (by rfl) _ _ _ (by rfl) (.slice xa xm xc) (.slice (some (aD w6.heap.size 0)) 1 1) (.slice ya ym yc) w7 (by rfl) (by rfl) pQ ?_;refine hK.o _ _ hs7 fun hS=>?_
         clear hK K pQ;refine wR 7 fun K hK=>?_
         go_simp;refine hK.o _ _ hS fun hS=>?_
         clear hK K;refine wR 8 fun K hK=>?_
         go_simp;refine hK.o _ _ Hu fun hS=>?_
         clear hK K;refine wD ?_
         try simp only[pU]
         go_wp2_with fail;go_meet;exact⟨rfl,Ps⟩
     case rest=>
      obtain⟨rfl,nv,h1,h2,h3,h4,h5⟩:=hcut;obtain⟨wd,hwd⟩:∃ x,x=wc:=⟨_,rfl⟩
      subst hwd;clear M5 adA vg HNb HPb cf0 cf1 cf2 cf3 cf4 cf5 cf6 cf7 cf8 cf9 Pq amf fL aap;obtain⟨na,nm,nc,rfl⟩:=ZP h2;have vg:=hd h1;have HNb:=hd h2;have HPb:=hd h3;have hcb:=h5;have HKd:=hd h4;clear h1 h2 h3 h4 h5;have asw:=Zh (bH.below (uB.o wd (qG.o.trans HKd.o)) asu.o);have asx:=Zh ass.o;obtain⟨xa,ha⟩:∃ x,x=pa:=⟨_,rfl⟩
      obtain⟨xm,hm⟩:∃ x,x=pm:=⟨_,rfl⟩
      obtain⟨xc,hc⟩:∃ x,x=pc:=⟨_,rfl⟩
      subst ha hm hc;have aaq:Hid (∀ x,Bw wd x->Cb 126 #[.agg #[.slice sa src.length sc,.slice (some (aD cb co)) wh.length aI,.bool group,.slice ka keys.length kc,.slice ua sums.length uc,.slice ea aV.length ec,.slice da ord.length dc,.slice ca (bS ts src src.length).length cc,.int .u64 (S:Int),.int .u64 (C:Int),.slice ra src.length rc,.slice na nm nc,.slice xa xm xc],.agg #[.slice ad cs.length ccp]] x (.int .u64 ((pgi:Nat):Int))):=fun x hx=>by
       have h:=Ob ⟨ca,cc,ra,rc,na,nm,nc,xa,xm,xc⟩ ts ⟨⟨sa,sc,src⟩,some (aD cb co),aI,wh,group,⟨ka,kc,keys⟩,⟨ua,uc,sums⟩,⟨ea,ec,aV⟩,⟨da,dc,ord⟩⟩ ad ccp cs x AX.o (ahZ.o x (HKd.o.trans (Zo hx (fun b hb _=>hb)))) (bH.below hx (asw.o)) asv.o ame.o;simp only[au.cells,ah.val,iP]at h;rw[<- HS.o,<- HCC.o]at h;rw[HPG.o];exact h
      have M5:Hid (∀ w6,Bw wd w6->∃ ya ym yc w7,(Builtin.append_ #[87,87] 87 #[.slice xa xm xc,.slice (some (aD w6.heap.size 0)) 1 1]).run Tryz.prog (w6.alloc (.cells #[.int .u64 ((pgi:Nat):Int)] 36))=.ok (.slice ya ym yc) w7/\Kept (fun b=>b≠w2.heap.size/\(Value.slice xa xm xc).ownBlock≠some b) wd w7/\
        w7.cell? (aD w2.heap.size 12)=some (.slice xa xm xc)/\w7.frozen? (aD w2.heap.size 12)=false/\Kept (fun b=>b≠w2.heap.size/\(Value.slice xa xm xc).ownBlock≠some b) wd (w7.setCell (aD w2.heap.size 12) (.slice ya ym yc))/\∃ nx,GB (w7.setCell (aD w2.heap.size 12) (.slice ya ym yc)) w2.heap.size 90 #[.slice sa src.length sc,.slice (some (aD cb co)) wh.length aI,.bool group,.slice ka keys.length kc,.slice ua sums.length uc,.slice ea aV.length ec,.slice da ord.length dc,.slice ca (bS ts src src.length).length cc,.int .u64 (S:Int),.int .u64 (C:Int),.slice ra src.length rc,.slice na nm nc,nx]/\(w7.setCell (aD w2.heap.size 12) (.slice ya ym yc)).ownsRow w4.heap.size 86 1 (.slice na nm nc) (CL.take (i+1)).length ((CL.take (i+1)).map fun (x:Nat)=>.int .u64 (x:Int))/\(w7.setCell (aD w2.heap.size 12) (.slice ya ym yc)).ownsRow w4.heap.size 36 1 (nx) (PL.take (i+1)).length ((PL.take (i+1)).map fun (x:Nat)=>.int .u64 (x:Int))/\Kept (fun b=>b≠w2.heap.size) w4 (w7.setCell (aD w2.heap.size 12) (.slice ya ym yc))):=fun w6 hb6=>by
       have g6:=vg.o.of (hb6.block _ vg.o.lt);have o6:=Xh HPb.o hb6;have k6:Kept (fun _=>True) wd w6:=Zo hb6 (fun b hb _=>hb);obtain⟨v',w7,pQ,KI,lu,⟨ya,ym,yc,rfl⟩,hat⟩:=Li w6 w4.heap.size (.slice xa xm xc) (PL.take i) o6 (by rw[Zm]; have:=U3.o; omega) (Zl HKd.o.size hb6.size) pgi 87;rw[<- HTP.o]at KI;obtain⟨g7,gZ,oZ,kZ⟩:=xH Tryz.Lh g6 o6 KI lu hat 12;refine⟨ya,ym,yc,w7,pQ,(k6.mono fun _ _ _=>trivial).trans (lu.mono fun _ _ h=>h.2),g7.cell 12,g7.frozen 12,(k6.mono fun _ _ _=>trivial).trans kZ,.slice ya ym yc,gZ,ZN (Xh HNb.o hb6) kZ (fun g hg=>⟨fun e=>mY Tryz.aft (Xh HNb.o hb6) g6 (by rw[hg,e]),fun e=>xG Tryz.afv (Xh HNb.o hb6) o6 hg e⟩),oZ,HKd.o.trans' ((k6.mono fun _ _ _=>trivial).trans kZ) (fun b hb h=>⟨h,fun e=>by have:=(ZO HPb.o e).1; omega⟩)⟩
      have fL:=vg.o.at 12;have aap:Hid (w8.heap.size≠w2.heap.size/\(Value.slice xa xm xc).ownBlock≠some w8.heap.size):=⟨HBN.o,asx.o⟩
      have cf0:=vg.o.at 0;have cf1:=vg.o.at 1;have cf2:=vg.o.at 2;have cf3:=vg.o.at 3;have cf4:=vg.o.at 4;have cf5:=vg.o.at 5;have cf6:=vg.o.at 6;have cf7:=vg.o.at 7;have cf8:=vg.o.at 8;have cf9:=vg.o.at 9;have Pq:=vg.o.at 10;have aar:=vg.o.at 11;go_upto_region 17 with fail;refine QX (S:=fun x=>Kept (fun b=>b≠w2.heap.size/\(Value.slice xa xm xc).ownBlock≠some b) wd x) (by kernel_rfl) (Zo ((Qw _ _).drew) (fun b hb _=>hb)) (fun hS=>?_);refine wt 0 (.pointer (some (aD w2.heap.size 12))) hS ?_;refine wT 3 (.agg #[.slice ad cs.length ccp]) hS (fun x hx=>?_) ?_
      ·have e0:=ZI hcb hx aap.o;go_simp
      refine wJ 1 2 (fun K hK=>?_) fun K hK=>?_
      ·skip;go_simp;refine hK.o _ _ hS fun hS=>?_
       clear hK K;refine wR 2 fun K hK=>?_
       go_simp;refine hK.o _ _ hS fun hS=>?_
       clear hK K;refine wR 4 fun K hK=>?_
       go_simp;refine Xt (aaq.o _ ((Qw _ _).drew)) ?_;rintro e w6 ⟨rfl,hb6⟩;have hb6:Bw wd w6:=((Qw _ _).drew).trans hb6;have f6:=cB hb6 fL;refine hK.o _ _ (Zo hb6 (fun b hb _=>hb)) (fun hS=>?_);clear hK K;refine wR 5 fun K hK=>?_
       go_simp;refine hK.o _ _ (hS.trans (Zr _ _)) (fun hS=>?_);clear hK K;refine wR 6 fun K hK=>?_
       obtain⟨ya,ym,yc,w7,pQ,hs7,f7,z7,Hu,Ps⟩:=M5.o w6 hb6;refine Xy (by rfl) _ _ _ (by rfl) (.slice xa xm xc) (.slice (some (aD w6.heap.size 0)) 1 1) (.slice ya ym yc) w7 (by rfl) (by rfl) pQ ?_;refine hK.o _ _ hs7 fun hS=>?_
       clear hK K pQ;refine wR 7 fun K hK=>?_
       go_simp;refine hK.o _ _ hS fun hS=>?_
       clear hK K;refine wR 8 fun K hK=>?_
       go_simp;refine hK.o _ _ Hu fun hS=>?_
       clear hK K;refine wD ?_
       try simp only[pU]
       obtain⟨nx,r1,r2,r3,r4⟩:=Ps;have HR1:Hid _:=r1;have HR2:Hid _:=r2;have HR3:Hid _:=r3;have HR4:=Zh r4;clear r1 r2 r3 r4 f7 z7 Hu hs7 f6 hcb hS fL cf0 cf1 cf2 cf3 cf4 cf5 cf6 cf7 cf8 cf9 Pq aar;go_wp2;go_roundw
       case rel=>exact⟨i+1,by omega,by go_num,.slice na nm nc,nx,HR1.o,HR2.o,HR3.o,HR4.o⟩
       case measure=>simp[intOf]; omega
      ·skip;go_simp;refine hK.o _ _ hS fun hS=>?_
       clear hK K;refine wJ 1 4 (fun K hK=>?_) fun K hK=>?_
       ·skip;go_simp;refine hK.o _ _ hS fun hS=>?_
        clear hK K;refine wR 4 fun K hK=>?_
        go_simp;refine Xt (aaq.o _ ((Qw _ _).drew)) ?_;rintro e w6 ⟨rfl,hb6⟩;have hb6:Bw wd w6:=((Qw _ _).drew).trans hb6;have f6:=cB hb6 fL;refine hK.o _ _ (Zo hb6 (fun b hb _=>hb)) (fun hS=>?_);clear hK K;refine wR 5 fun K hK=>?_
        go_simp;refine hK.o _ _ (hS.trans (Zr _ _)) (fun hS=>?_);clear hK K;refine wR 6 fun K hK=>?_
        obtain⟨ya,ym,yc,w7,pQ,hs7,f7,z7,Hu,Ps⟩:=M5.o w6 hb6;refine Xy (by rfl) _ _ _ (by rfl) (.slice xa xm xc) (.slice (some (aD w6.heap.size 0)) 1 1) (.slice ya ym yc) w7 (by rfl) (by rfl) pQ ?_;refine hK.o _ _ hs7 fun hS=>?_
        clear hK K pQ;refine wR 7 fun K hK=>?_
        go_simp;refine hK.o _ _ hS fun hS=>?_
        clear hK K;refine wR 8 fun K hK=>?_
        go_simp;refine hK.o _ _ Hu fun hS=>?_
        clear hK K;refine wD ?_
        try simp only[pU]
        obtain⟨nx,r1,r2,r3,r4⟩:=Ps;have HR1:Hid _:=r1;have HR2:Hid _:=r2;have HR3:Hid _:=r3;have HR4:=Zh r4;clear r1 r2 r3 r4 f7 z7 Hu hs7 f6 hcb hS fL cf0 cf1 cf2 cf3 cf4 cf5 cf6 cf7 cf8 cf9 Pq aar;go_wp2;go_roundw
        case rel=>exact⟨i+1,by omega,by go_num,.slice na nm nc,nx,HR1.o,HR2.o,HR3.o,HR4.o⟩
        case measure=>simp[intOf]; omega
       ·skip;go_simp;refine Xt (aaq.o _ ((Qw _ _).drew)) ?_;rintro e w6 ⟨rfl,hb6⟩;have hb6:Bw wd w6:=((Qw _ _).drew).trans hb6;have f6:=cB hb6 fL;refine hK.o _ _ (Zo hb6 (fun b hb _=>hb)) (fun hS=>?_);clear hK K;refine wJ 1 5 (fun K hK=>?_) fun K hK=>?_
        ·skip;go_simp;refine hK.o _ _ hS fun hS=>?_
         clear hK K;refine wR 5 fun K hK=>?_
         go_simp;refine hK.o _ _ (hS.trans (Zr _ _)) (fun hS=>?_);clear hK K;refine wR 6 fun K hK=>?_
         obtain⟨ya,ym,yc,w7,pQ,hs7,f7,z7,Hu,Ps⟩:=M5.o w6 hb6;refine Xy (by rfl) _ _ _ (by rfl) (.slice xa xm xc) (.slice (some (aD w6.heap.size 0)) 1 1) (.slice ya ym yc) w7 (by rfl) (by rfl) pQ ?_;refine hK.o _ _ hs7 fun hS=>?_
         clear hK K pQ;refine wR 7 fun K hK=>?_
         go_simp;refine hK.o _ _ hS fun hS=>?_
         clear hK K;refine wR 8 fun K hK=>?_
         go_simp;refine hK.o _ _ Hu fun hS=>?_
         clear hK K;refine wD ?_
         try simp only[pU]
         obtain⟨nx,r1,r2,r3,r4⟩:=Ps;have HR1:Hid _:=r1;have HR2:Hid _:=r2;have HR3:Hid _:=r3;have HR4:=Zh r4;clear r1 r2 r3 r4 f7 z7 Hu hs7 f6 hcb hS fL cf0 cf1 cf2 cf3 cf4 cf5 cf6 cf7 cf8 cf9 Pq aar;go_wp2;go_roundw
         case rel=>exact⟨i+1,by omega,by go_num,.slice na nm nc,nx,HR1.o,HR2.o,HR3.o,HR4.o⟩
         case measure=>simp[intOf]; omega
        ·skip;go_simp;refine hK.o _ _ (hS.trans (Zr _ _)) (fun hS=>?_);clear hK K;have f6a:(w6.alloc (.cells #[.int .u64 (pgi:Int)] 36)).cell? (aD w2.heap.size 12)=some (.slice xa xm xc):=cB (dn _ _) f6;refine wR 1 fun K hK=>?_
         go_simp;refine hK.o _ _ hS fun hS=>?_
         clear hK K;refine wR 6 fun K hK=>?_
         obtain⟨ya,ym,yc,w7,pQ,hs7,f7,z7,Hu,Ps⟩:=M5.o w6 hb6;refine Xy (by rfl) _ _ _ (by rfl) (.slice xa xm xc) (.slice (some (aD w6.heap.size 0)) 1 1) (.slice ya ym yc) w7 (by rfl) (by rfl) pQ ?_;refine hK.o _ _ hs7 fun hS=>?_
         clear hK K pQ;refine wR 7 fun K hK=>?_
         go_simp;refine hK.o _ _ hS fun hS=>?_
         clear hK K;refine wR 8 fun K hK=>?_
         go_simp;refine hK.o _ _ Hu fun hS=>?_
         clear hK K;refine wD ?_
         try simp only[pU]
         obtain⟨nx,r1,r2,r3,r4⟩:=Ps;have HR1:Hid _:=r1;have HR2:Hid _:=r2;have HR3:Hid _:=r3;have HR4:=Zh r4;clear r1 r2 r3 r4 f7 z7 Hu hs7 f6 hcb hS fL cf0 cf1 cf2 cf3 cf4 cf5 cf6 cf7 cf8 cf9 Pq aar;go_wp2;go_roundw
         case rel=>exact⟨i+1,by omega,by go_num,.slice na nm nc,nx,HR1.o,HR2.o,HR3.o,HR4.o⟩
         case measure=>simp[intOf]; omega
    ·obtain rfl:i=wh.length:=by omega
     obtain⟨w5,uT⟩:∃ x,x=wr:=⟨_,rfl⟩
     subst uT;rw[Xl (by rw[U2.o]; exact Qx _)]at Lj;rw[Xl (by rw[U3.o]; exact Qx _)]at YB;obtain⟨na,nc,rfl,hna⟩:=pY Lj.o (by rw[U2.o]; omega);obtain⟨pa,pc,rfl,Tm⟩:=pY YB.o (by rw[U3.o]; omega);have amg:=HNG.o;have uJ:=(show GB w2 w1.heap.size 90 #[.slice none 0 0,.slice none 0 0,.bool false,.slice none 0 0,.slice none 0 0,.slice none 0 0,.slice none 0 0,.slice none 0 0,.int .u64 0,.int .u64 0,.slice none 0 0,.slice none 0 0,.slice none 0 0] from qp.o).of (aao.block _ (show GB w2 w1.heap.size 90 #[.slice none 0 0,.slice none 0 0,.bool false,.slice none 0 0,.slice none 0 0,.slice none 0 0,.slice none 0 0,.slice none 0 0,.int .u64 0,.int .u64 0,.slice none 0 0,.slice none 0 0,.slice none 0 0] from qp.o).lt);have h12:=(show GB w2 w1.heap.size 90 #[.slice none 0 0,.slice none 0 0,.bool false,.slice none 0 0,.slice none 0 0,.slice none 0 0,.slice none 0 0,.slice none 0 0,.int .u64 0,.int .u64 0,.slice none 0 0,.slice none 0 0,.slice none 0 0] from qp.o).lt;have hkZ:=World.rq w5 w1.heap.size (.slice sa src.length sc) (.slice bY wh.length aI) (.bool group) (.slice ka keys.length kc) (.slice ua sums.length uc) (.slice ea aV.length ec) (.slice da ord.length dc) (.slice ca (bS ts src src.length).length cc) (.int .u64 (S:Int)) (.int .u64 (C:Int)) (.slice ra src.length rc) (.slice na CL.length nc) (.slice pa PL.length pc);have ui:=Zh (uA (World.yw uJ (.slice sa src.length sc) (.slice bY wh.length aI) (.bool group) (.slice ka keys.length kc) (.slice ua sums.length uc) (.slice ea aV.length ec) (.slice da ord.length dc) (.slice ca (bS ts src src.length).length cc) (.int .u64 (S:Int)) (.int .u64 (C:Int)) (.slice ra src.length rc) (.slice na CL.length nc) (.slice pa PL.length pc)));have hown1:∀ {e:TypeId} {base sz n:Nat} {v:Value} {xs:List Value},w2.heap.size<=base->w5.ownsRow base e sz v n xs->(World.mr w5 w1.heap.size (.slice sa src.length sc) (.slice bY wh.length aI) (.bool group) (.slice ka keys.length kc) (.slice ua sums.length uc) (.slice ea aV.length ec) (.slice da ord.length dc) (.slice ca (bS ts src src.length).length cc) (.int .u64 (S:Int)) (.int .u64 (C:Int)) (.slice ra src.length rc) (.slice na CL.length nc) (.slice pa PL.length pc)).ownsRow base e sz v n xs:=fun hb h=>ZN h hkZ (fun g hg e=>by have:=(ZO h hg).1; omega)
     have aze:=qG.o.size;have hww:=HWW.o;have HBZ:Bw w (World.mr w5 w1.heap.size (.slice sa src.length sc) (.slice bY wh.length aI) (.bool group) (.slice ka keys.length kc) (.slice ua sums.length uc) (.slice ea aV.length ec) (.slice da ord.length dc) (.slice ca (bS ts src src.length).length cc) (.int .u64 (S:Int)) (.int .u64 (C:Int)) (.slice ra src.length rc) (.slice na CL.length nc) (.slice pa PL.length pc)):=by
      have h1:=HC0.o.trans (aao.mono HC0.o.size);exact h1.trans (hkZ.below h1.size (fun b hb=>by have:=yT.o.size; have:=HWW.o; omega))
     have gz:Hid (∃ f:au,Ending.returned (.agg #[.slice sa src.length sc,.slice bY wh.length aI,.bool group,.slice ka keys.length kc,.slice ua sums.length uc,.slice ea aV.length ec,.slice da ord.length dc,.slice ca (bS ts src src.length).length cc,.int .u64 (S:Int),.int .u64 (C:Int),.slice ra src.length rc,.slice na CL.length nc,.slice pa PL.length pc])=.returned (.agg (f.cells ts ⟨⟨sa,sc,src⟩,bY,aI,wh,group,⟨ka,kc,keys⟩,⟨ua,uc,sums⟩,⟨ea,ec,aV⟩,⟨da,dc,ord⟩⟩))/\f.At ts ⟨⟨sa,sc,src⟩,bY,aI,wh,group,⟨ka,kc,keys⟩,⟨ua,uc,sums⟩,⟨ea,ec,aV⟩,⟨da,dc,ord⟩⟩ (World.mr w5 w1.heap.size (.slice sa src.length sc) (.slice bY wh.length aI) (.bool group) (.slice ka keys.length kc) (.slice ua sums.length uc) (.slice ea aV.length ec) (.slice da ord.length dc) (.slice ca (bS ts src src.length).length cc) (.int .u64 (S:Int)) (.int .u64 (C:Int)) (.slice ra src.length rc) (.slice na CL.length nc) (.slice pa PL.length pc))/\f.New w.heap.size/\Bw w (World.mr w5 w1.heap.size (.slice sa src.length sc) (.slice bY wh.length aI) (.bool group) (.slice ka keys.length kc) (.slice ua sums.length uc) (.slice ea aV.length ec) (.slice da ord.length dc) (.slice ca (bS ts src src.length).length cc) (.int .u64 (S:Int)) (.int .u64 (C:Int)) (.slice ra src.length rc) (.slice na CL.length nc) (.slice pa PL.length pc))):=by
      refine⟨⟨ca,cc,ra,rc,na,CL.length,nc,pa,PL.length,pc⟩,?_,⟨?_,?_,?_,?_,?_,?_,?_⟩,⟨?_,?_,?_,?_⟩,HBZ⟩
      ·simp only[au.cells,ah.val,iP];rw[<- HS.o,<- HCC.o]
      ·exact HQ0.o.below HBZ
      ·have hk4:Kept (fun b=>b≠w2.heap.size/\b≠w1.heap.size) w4 (World.mr w5 w1.heap.size (.slice sa src.length sc) (.slice bY wh.length aI) (.bool group) (.slice ka keys.length kc) (.slice ua sums.length uc) (.slice ea aV.length ec) (.slice da ord.length dc) (.slice ca (bS ts src src.length).length cc) (.int .u64 (S:Int)) (.int .u64 (C:Int)) (.slice ra src.length rc) (.slice na CL.length nc) (.slice pa PL.length pc)):=(HNK.o.mono fun _ _ h=>h.1).trans (hkZ.mono fun _ _ h=>h.2);obtain⟨a,c,e,h⟩:=BI (ZN nG.o hk4 (fun g hg=>⟨fun e=>mY Tryz.Sg nG.o HG.o (by rw[hg,e]),by have:=(ZO nG.o hg).1; omega⟩)) (by have:=qI.o; omega)
       cases e
       exact h
      ·have hk4:Kept (fun b=>b≠w2.heap.size/\b≠w1.heap.size) w4 (World.mr w5 w1.heap.size (.slice sa src.length sc) (.slice bY wh.length aI) (.bool group) (.slice ka keys.length kc) (.slice ua sums.length uc) (.slice ea aV.length ec) (.slice da ord.length dc) (.slice ca (bS ts src src.length).length cc) (.int .u64 (S:Int)) (.int .u64 (C:Int)) (.slice ra src.length rc) (.slice na CL.length nc) (.slice pa PL.length pc)):=(HNK.o.mono fun _ _ h=>h.1).trans (hkZ.mono fun _ _ h=>h.2);obtain⟨a,c,e,h⟩:=pY (ZN OY.o hk4 (fun g hg=>⟨fun e=>mY Tryz.Lh OY.o HG.o (by rw[hg,e]),by have:=(ZO OY.o hg).1; omega⟩)) (by rw[nQ]; omega);rw[nQ]at e
       cases e
       exact h
      ·obtain⟨a,c,e,h⟩:=pY (hown1 (by omega) Lj.o) (by rw[U2.o]; omega)
       cases e
       rw[<- ama.o];exact h
      ·obtain⟨a,c,e,h⟩:=pY (hown1 (by omega) YB.o) (by rw[U3.o]; omega)
       cases e
       rw[<- amb.o];exact h
      ·exact U2.o
      ·exact U3.o
      ·rintro a rfl;have:=(ZO nG.o (g:=a.block) rfl).1;omega
      ·rintro a rfl;have:=(ZO OY.o (g:=a.block) rfl).1;omega
      ·rintro a rfl;have:=(ZO Lj.o (g:=a.block) rfl).1;omega
      ·rintro a rfl;have:=(ZO YB.o (g:=a.block) rfl).1;omega
     unfold World.mr at gz ui;obtain⟨cf0,cf1,cf2,cf3,cf4,cf5,cf6,cf7,cf8,cf9,Pq,aar,amf⟩:=amg.k13;obtain⟨cr0,cr1,cr2,cr3,cr4,cr5,cr6,cr7,cr8,cr9,azf,azg,azh⟩:=uJ.k13;have cz0:=uJ.frozen 0;have cz1:=uJ.frozen 1;have cz2:=uJ.frozen 2;have cz3:=uJ.frozen 3;have cz4:=uJ.frozen 4;have cz5:=uJ.frozen 5;have cz6:=uJ.frozen 6;have cz7:=uJ.frozen 7;have cz8:=uJ.frozen 8;have cz9:=uJ.frozen 9;have azi:=uJ.frozen 10;have azj:=uJ.frozen 11;have azk:=uJ.frozen 12;clear amg uJ hkZ hown1 HBZ HNG Lj YB HNK HG nG OY hna Tm ahZ;go_wp2;exact XE (jN (p:=4) rfl rfl ui.o) rfl gz.o
