import Derived.Test.YtbcgekghfgcakaaGreatDoorF12
import Derived.Test.YtbcgekghfgcakaaGreatDoorF14
set_option linter.all false
set_option maxRecDepth 100000
set_option maxHeartbeats 16000000
namespace Go.Proofs.Zz
open Go.RowKit Go.Shelf
theorem Tryz.abN:(Tryz.prog.info? 146).map (fun i=>(i.zero,i.size,i.bytes))=some (some (.agg #[.int .i64 0,.int .u64 0]),2,16):=by kernel_rfl
theorem Tryz.abO:(Tryz.prog.info? 42).map (fun i=>(i.zero,i.size,i.bytes))=some (some (.int .u64 0),1,8):=by kernel_rfl
theorem Tryz.abP:(Tryz.prog.info? 90).map (fun i=>(i.zero,i.size,i.bytes))=some (some (.int .u64 0),1,8):=by kernel_rfl
theorem Tryz.OQ:146≠94:=by decide
theorem Tryz.Jw:42≠94:=by decide
theorem Tryz.adf:90≠94:=by decide
theorem Tryz.adg:146≠42:=by decide
theorem Tryz.adh:90≠42:=by decide
theorem Tryz.aj4:146≠54:=by decide
theorem Jy (W:World) (base:Nat) (v:Value) (xs:List Nat) (hown:W.ownsRow base 42 1 v xs.length (xs.map fun (x:Nat)=>.int .u64 (x:Int))) (hl:xs.length<=1000) (hb:base<=W.heap.size) (x:Nat) (ty:TypeId) :
  ∃ v' w',(Builtin.append_ #[91,91] ty #[v,.slice (some (aD W.heap.size 0)) 1 1]).run Tryz.prog (W.alloc (.cells #[.int .u64 (x:Int)] 42))=.ok v' w'/\
   w'.ownsRow base 42 1 v' (xs++[x]).length ((xs++[x]).map fun (x:Nat)=>.int .u64 (x:Int))/\Kept (fun b=>v.ownBlock≠some b) W w'/\(∃ a m c,v' = .slice a m c)/\(v'.ownBlock=v.ownBlock∨v'.ownBlock=some (W.heap.size+1)):=by
 obtain⟨i0,hi,hz0,hz1,hz2⟩:=ZC Tryz.abO;obtain⟨v',w',hr,ho,hk,hs,hat⟩:=ZV (P:=Tryz.prog) W base 91 ty 42 i0 (.int .u64 0) 1 8 Tryz.underlying91 hi hz0 hz1 hz2 rfl (by decide) v xs.length _ hown hb [.int .u64 (x:Int)] rfl (fun u hu=>by rw[QY] at hu; rw[hu]; rfl) hl (by decide);exact⟨v',w',hr,by rw[QT,Ql]; exact ho,hk,hs,hat⟩
theorem WW (W:World) (base:Nat) (v:Value) (xs:List Nat) (hown:W.ownsRow base 90 1 v xs.length (xs.map fun (x:Nat)=>.int .u64 (x:Int))) (hl:xs.length<=1000) (hb:base<=W.heap.size) (x:Nat) (ty:TypeId) :
  ∃ v' w',(Builtin.append_ #[92,92] ty #[v,.slice (some (aD W.heap.size 0)) 1 1]).run Tryz.prog (W.alloc (.cells #[.int .u64 (x:Int)] 90))=.ok v' w'/\
   w'.ownsRow base 90 1 v' (xs++[x]).length ((xs++[x]).map fun (x:Nat)=>.int .u64 (x:Int))/\Kept (fun b=>v.ownBlock≠some b) W w'/\(∃ a m c,v' = .slice a m c)/\(v'.ownBlock=v.ownBlock∨v'.ownBlock=some (W.heap.size+1)):=by
 obtain⟨i0,hi,hz0,hz1,hz2⟩:=ZC Tryz.abP;obtain⟨v',w',hr,ho,hk,hs,hat⟩:=ZV (P:=Tryz.prog) W base 92 ty 90 i0 (.int .u64 0) 1 8 Tryz.underlying92 hi hz0 hz1 hz2 rfl (by decide) v xs.length _ hown hb [.int .u64 (x:Int)] rfl (fun u hu=>by rw[QY] at hu; rw[hu]; rfl) hl (by decide);exact⟨v',w',hr,by rw[QT,Ql]; exact ho,hk,hs,hat⟩
theorem WX (W:World) (base:Nat) (v:Value) (n:Nat) (xs:List Value) (hown:W.ownsRow base 146 2 v n xs) (hl:n<=1000) (hb:base<=W.heap.size) (s:Nat) (k:Int) (ty:TypeId) :
  ∃ v' w',(Builtin.append_ #[88,88] ty #[v,.slice (some (aD W.heap.size 0)) 1 1]).run Tryz.prog (W.alloc (.cells #[.int .i64 (s:Int),.int .u64 k] 146))=.ok v' w'/\
   w'.ownsRow base 146 2 v' (n+1) (xs++iq (s,k))/\Kept (fun b=>v.ownBlock≠some b) W w'/\(∃ a m c,v' = .slice a m c)/\(v'.ownBlock=v.ownBlock∨v'.ownBlock=some (W.heap.size+1)):=by
 obtain⟨i0,hi,hz0,hz1,hz2⟩:=ZC Tryz.abN;exact ZV (P:=Tryz.prog) W base 88 ty 146 i0 (.agg #[.int .i64 0,.int .u64 0]) 2 16 Tryz.underlying88 hi hz0 hz1 hz2 rfl (by decide) v n _ hown hb [.int .i64 (s:Int),.int .u64 k] rfl (fun u hu=>by simp at hu; rcases hu with rfl | rfl <;> rfl) hl (by decide)
theorem aj5 {W:World} {b:Nat} {ty:TypeId} {a0 a1:Value} {t:af} (h:GB W b ty #[a0,a1,.int .i64 t.k0,.int .i64 t.k1,.int .i64 t.k2,.int .i64 t.k3]) {m:Nat} (hm:m<4):W.cell? (aD b (2+m))=some (.int .i64 (t.kd m)):=by
 rcases (by omega:m=0∨m=1∨m=2∨m=3) with rfl | rfl | rfl | rfl
 ·exact h.cell 2
 ·exact h.cell 3
 ·exact h.cell 4
 ·exact h.cell 5
theorem DC {l:List Nat} {i:Nat} (hi:i<l.length):l.take (i+1)=l.take i++[l.getD i 0]:=by
 have e:l.getD i 0=l[i]:=by simp[List.getD,hi]
 rw[Qk hi,e]
def World.rE (W:World) (B:Nat) (v0 v1 v2 v3 v4 v5 v6 v7 v8 v9 v10 v11 v12:Value):World:=(((((((((((((W.setCell (aD B 0) v0).setCell (aD B 1) v1).setCell (aD B 2) v2).setCell (aD B 3) v3).setCell (aD B 4) v4).setCell (aD B 5) v5).setCell (aD B 6) v6).setCell (aD B 7) v7).setCell (aD B 8) v8).setCell (aD B 9) v9).setCell (aD B 10) v10).setCell (aD B 11) v11).setCell (aD B 12) v12)
theorem World.WY {W:World} {B:Nat} {t:TypeId} {a0 a1 a2 a3 a4 a5 a6 a7 a8 a9 fI fU a12:Value} (h:GB W B t #[a0,a1,a2,a3,a4,a5,a6,a7,a8,a9,fI,fU,a12]) (v0 v1 v2 v3 v4 v5 v6 v7 v8 v9 v10 v11 v12:Value):GB (World.rE W B v0 v1 v2 v3 v4 v5 v6 v7 v8 v9 v10 v11 v12) B t #[v0,v1,v2,v3,v4,v5,v6,v7,v8,v9,v10,v11,v12]:=by
 unfold World.rE;have h0:GB (W.setCell (aD B 0) v0) B t #[v0,a1,a2,a3,a4,a5,a6,a7,a8,a9,fI,fU,a12]:=h.set 0 v0;have h1:GB ((W.setCell (aD B 0) v0).setCell (aD B 1) v1) B t #[v0,v1,a2,a3,a4,a5,a6,a7,a8,a9,fI,fU,a12]:=h0.set 1 v1;have h2:GB (((W.setCell (aD B 0) v0).setCell (aD B 1) v1).setCell (aD B 2) v2) B t #[v0,v1,v2,a3,a4,a5,a6,a7,a8,a9,fI,fU,a12]:=h1.set 2 v2;have h3:GB ((((W.setCell (aD B 0) v0).setCell (aD B 1) v1).setCell (aD B 2) v2).setCell (aD B 3) v3) B t #[v0,v1,v2,v3,a4,a5,a6,a7,a8,a9,fI,fU,a12]:=h2.set 3 v3;have h4:GB (((((W.setCell (aD B 0) v0).setCell (aD B 1) v1).setCell (aD B 2) v2).setCell (aD B 3) v3).setCell (aD B 4) v4) B t #[v0,v1,v2,v3,v4,a5,a6,a7,a8,a9,fI,fU,a12]:=h3.set 4 v4;have h5:GB ((((((W.setCell (aD B 0) v0).setCell (aD B 1) v1).setCell (aD B 2) v2).setCell (aD B 3) v3).setCell (aD B 4) v4).setCell (aD B 5) v5) B t #[v0,v1,v2,v3,v4,v5,a6,a7,a8,a9,fI,fU,a12]:=h4.set 5 v5;have h6:GB (((((((W.setCell (aD B 0) v0).setCell (aD B 1) v1).setCell (aD B 2) v2).setCell (aD B 3) v3).setCell (aD B 4) v4).setCell (aD B 5) v5).setCell (aD B 6) v6) B t #[v0,v1,v2,v3,v4,v5,v6,a7,a8,a9,fI,fU,a12]:=h5.set 6 v6;have h7:GB ((((((((W.setCell (aD B 0) v0).setCell (aD B 1) v1).setCell (aD B 2) v2).setCell (aD B 3) v3).setCell (aD B 4) v4).setCell (aD B 5) v5).setCell (aD B 6) v6).setCell (aD B 7) v7) B t #[v0,v1,v2,v3,v4,v5,v6,v7,a8,a9,fI,fU,a12]:=h6.set 7 v7;have h8:GB (((((((((W.setCell (aD B 0) v0).setCell (aD B 1) v1).setCell (aD B 2) v2).setCell (aD B 3) v3).setCell (aD B 4) v4).setCell (aD B 5) v5).setCell (aD B 6) v6).setCell (aD B 7) v7).setCell (aD B 8) v8) B t #[v0,v1,v2,v3,v4,v5,v6,v7,v8,a9,fI,fU,a12]:=h7.set 8 v8;have h9:GB ((((((((((W.setCell (aD B 0) v0).setCell (aD B 1) v1).setCell (aD B 2) v2).setCell (aD B 3) v3).setCell (aD B 4) v4).setCell (aD B 5) v5).setCell (aD B 6) v6).setCell (aD B 7) v7).setCell (aD B 8) v8).setCell (aD B 9) v9) B t #[v0,v1,v2,v3,v4,v5,v6,v7,v8,v9,fI,fU,a12]:=h8.set 9 v9;have h10:GB (((((((((((W.setCell (aD B 0) v0).setCell (aD B 1) v1).setCell (aD B 2) v2).setCell (aD B 3) v3).setCell (aD B 4) v4).setCell (aD B 5) v5).setCell (aD B 6) v6).setCell (aD B 7) v7).setCell (aD B 8) v8).setCell (aD B 9) v9).setCell (aD B 10) v10) B t #[v0,v1,v2,v3,v4,v5,v6,v7,v8,v9,v10,fU,a12]:=h9.set 10 v10
 have h11:GB ((((((((((((W.setCell (aD B 0) v0).setCell (aD B 1) v1).setCell (aD B 2) v2).setCell (aD B 3) v3).setCell (aD B 4) v4).setCell (aD B 5) v5).setCell (aD B 6) v6).setCell (aD B 7) v7).setCell (aD B 8) v8).setCell (aD B 9) v9).setCell (aD B 10) v10).setCell (aD B 11) v11) B t #[v0,v1,v2,v3,v4,v5,v6,v7,v8,v9,v10,v11,a12]:=h10.set 11 v11;have h12:GB (((((((((((((W.setCell (aD B 0) v0).setCell (aD B 1) v1).setCell (aD B 2) v2).setCell (aD B 3) v3).setCell (aD B 4) v4).setCell (aD B 5) v5).setCell (aD B 6) v6).setCell (aD B 7) v7).setCell (aD B 8) v8).setCell (aD B 9) v9).setCell (aD B 10) v10).setCell (aD B 11) v11).setCell (aD B 12) v12) B t #[v0,v1,v2,v3,v4,v5,v6,v7,v8,v9,v10,v11,v12]:=h11.set 12 v12;exact h12
theorem World.Np (W:World) (B:Nat) (v0 v1 v2 v3 v4 v5 v6 v7 v8 v9 v10 v11 v12:Value):Kept (fun x=>x≠B) W (World.rE W B v0 v1 v2 v3 v4 v5 v6 v7 v8 v9 v10 v11 v12):=by
 unfold World.rE;exact (((((((((((((Zv _ (aD B 0) _ (fun h=>h rfl)).trans (Zv _ (aD B 1) _ (fun h=>h rfl))).trans (Zv _ (aD B 2) _ (fun h=>h rfl))).trans (Zv _ (aD B 3) _ (fun h=>h rfl))).trans (Zv _ (aD B 4) _ (fun h=>h rfl))).trans (Zv _ (aD B 5) _ (fun h=>h rfl))).trans (Zv _ (aD B 6) _ (fun h=>h rfl))).trans (Zv _ (aD B 7) _ (fun h=>h rfl))).trans (Zv _ (aD B 8) _ (fun h=>h rfl))).trans (Zv _ (aD B 9) _ (fun h=>h rfl))).trans (Zv _ (aD B 10) _ (fun h=>h rfl))).trans (Zv _ (aD B 11) _ (fun h=>h rfl))).trans (Zv _ (aD B 12) _ (fun h=>h rfl)))
theorem Td {W:World} {B:Nat} {v0 v1 v2 v3 v4 v5 v6 v7 v8 v9 v10 v11 v12:Value} (h:GB W B 94 #[v0,v1,v2,v3,v4,v5,v6,v7,v8,v9,v10,v11,v12]):(loadVar 94 (aD B 0)).run Tryz.prog W=.ok (.agg #[v0,v1,v2,v3,v4,v5,v6,v7,v8,v9,v10,v11,v12]) W:=by
 obtain⟨c0,c1,c2,c3,c4,c5,c6,c7,c8,c9,c10,c11,c12⟩:=h.k13;simp[go_sem,c0,c1,c2,c3,c4,c5,c6,c7,c8,c9,c10,c11,c12]
theorem Jz (ao:Option Addr) (cap:Nat) (ts:List af) (q:ae) (w:World) (hx:aJ w ao ts) (hq:q.At w) (ok:Ok ts q) :
  Calls Tryz.prog 39 #[.slice ao ts.length cap,.agg q.cells] w fun e w'=>∃ f:aB,e=.returned (.agg (f.cells ts q))/\f.At ts q w'/\f.New w.heap.size/\Below w.heap.size w w':=by
 obtain⟨w1,hw1,hk1,hg1⟩:=bu w q.cells 26;obtain⟨w2,hw2,hk2,hg2⟩:=bu w1 #[.slice none 0 0,.slice none 0 0,.bool false,.slice none 0 0,.slice none 0 0,.slice none 0 0,.slice none 0 0,.slice none 0 0,.int .u64 0,.int .u64 0,.slice none 0 0,.slice none 0 0,.slice none 0 0] 94;have hc1:=hk2;have hc0:=aG hk1 hc1;have wI:=hg1.of (hc1.block _ hg1.lt);obtain⟨mJ,sw,xq,uf,sj,xu,xw⟩:=wI.k7;have Et:=hg2;have hsm:=ok.small;have hwm:=ok.lh;obtain⟨S,hS⟩:∃ S,S=2 ^ q.src.xs.length-1:=⟨_,rfl⟩
 obtain⟨C,hC⟩:∃ C,C=2 ^ q.wh.length-1:=⟨_,rfl⟩
 have HS:=Zh hS;have HCC:=Zh hC;have hFO:Hid (∀ x,Calls Tryz.prog 72 #[.int .i64 (q.src.xs.length:Int)] x fun e w'=>e=.returned (.int .u64 (S:Int))/\w' = x):=fun x=>by rw[hS]; exact sS q.src.xs.length hsm x
 have hFW:Hid (∀ x,Calls Tryz.prog 72 #[.int .i64 (q.wh.length:Int)] x fun e w'=>e=.returned (.int .u64 (C:Int))/\w' = x):=fun x=>by rw[hC]; exact sS q.wh.length hwm x
 clear hS hC;have HX:Hid _:=hx.below hc0;have HQ:=Zh (hq.below hc0);have HQ0:=Zh hq;have HWW:=Zh hk1.size;have Bz:=Zh ok;have Vm:=Zh hc0;have wO:=Zh hc1;have hsl:=hq.src.1;have hwl:=hq.wh.1;clear hx hq ok hc0 hc1 hk1 hk2 hg1 hg2 wI;have vz:Hid _:=Et;clear Et;obtain⟨⟨sa,sc,src⟩,bY,aI,wh,group,⟨ka,kc,keys⟩,⟨ua,uc,sums⟩,⟨ea,ec,aQ⟩,⟨da,dc,ord⟩⟩:=q;unfold ae.cells ah.val at *;simp only at *;go_enter Tryz.func39,Tryz.ntmps39;go_upto_region 1 with fail;go_cut [5] from 13 to 22 (fun c wx=>c=.pointer (some (aD w2.heap.size 0))/\GB wx w2.heap.size 94 #[.slice sa src.length sc,.slice bY wh.length aI,.bool group,.slice ka keys.length kc,.slice ua sums.length uc,.slice ea aQ.length ec,.slice da ord.length dc,.slice none 0 0,.int .u64 (S:Int),.int .u64 (C:Int),.slice none 0 0,.slice none 0 0,.slice none 0 0]/\Below w2.heap.size w2 wx)
 case first=>
  refine wH w2 fun hS=>?_
  refine wT 0 (.agg #[.slice sa src.length sc,.slice bY wh.length aI,.bool group,.slice ka keys.length kc,.slice ua sums.length uc,.slice ea aQ.length ec,.slice da ord.length dc]) hS (fun x hx=>?_) ?_
  ·have e0:=TP hx mJ sw xq uf sj xu xw;go_simp
  refine wt 1 (.pointer (some (aD w.heap.size 0))) hS ?_;refine iB 2 (.slice sa src.length sc) hS mJ ?_;refine wt 3 (.int .i64 (src.length:Int)) hS ?_;refine wt 5 (.pointer (some (aD w.heap.size 1))) hS ?_;refine iB 6 (.slice bY wh.length aI) hS sw ?_;refine wt 7 (.int .i64 (wh.length:Int)) hS ?_;refine wJ 4 10 (fun K hK=>?_) fun K hK=>?_
  ·skip;go_simp;refine Z7 (hFO.out _) ?_;rintro e wz ⟨rfl,rfl⟩;refine hK.out _ _ hS fun hS=>?_
   clear hK K;refine wJ 8 10 (fun K hK=>?_) fun K hK=>?_
   ·skip;go_simp;refine Z7 (hFW.out _) ?_;rintro e wz ⟨rfl,rfl⟩;refine hK.out _ _ hS fun hS=>?_
    clear hK K;refine wt 9 (.agg #[.slice sa src.length sc,.slice bY wh.length aI,.bool group,.slice ka keys.length kc,.slice ua sums.length uc,.slice ea aQ.length ec,.slice da ord.length dc,.slice none 0 0,.int .u64 (S:Int),.int .u64 (C:Int),.slice none 0 0,.slice none 0 0,.slice none 0 0]) hS ?_;refine wR 10 fun K hK=>?_
    go_simp;refine oA hK hS fun hS=>?_
    clear hK K;refine wR 11 fun K hK=>?_
    go_simp;refine hK.out _ _ ((bU _ _).drew) (fun hS=>?_);clear hK K;refine wD ?_
    try simp only[pU]
    go_wp2_with fail;go_meet;exact⟨rfl,kG w2 _,hS⟩
   ·skip;go_simp;refine oA hK hS fun hS=>?_
    clear hK K;refine wR 8 fun K hK=>?_
    go_simp;refine Z7 (hFW.out _) ?_;rintro e wz ⟨rfl,rfl⟩;refine hK.out _ _ hS fun hS=>?_
    clear hK K;refine wt 9 (.agg #[.slice sa src.length sc,.slice bY wh.length aI,.bool group,.slice ka keys.length kc,.slice ua sums.length uc,.slice ea aQ.length ec,.slice da ord.length dc,.slice none 0 0,.int .u64 (S:Int),.int .u64 (C:Int),.slice none 0 0,.slice none 0 0,.slice none 0 0]) hS ?_;refine wR 11 fun K hK=>?_
    go_simp;refine hK.out _ _ ((bU _ _).drew) (fun hS=>?_);clear hK K;refine wD ?_
    try simp only[pU]
    go_wp2_with fail;go_meet;exact⟨rfl,kG w2 _,hS⟩
  ·skip;go_simp;refine oA hK hS fun hS=>?_
   clear hK K;refine wR 4 fun K hK=>?_
   go_simp;refine Z7 (hFO.out _) ?_;rintro e wz ⟨rfl,rfl⟩;refine hK.out _ _ hS fun hS=>?_
   clear hK K;refine wR 8 fun K hK=>?_
   go_simp;refine Z7 (hFW.out _) ?_;rintro e wz ⟨rfl,rfl⟩;refine hK.out _ _ hS fun hS=>?_
   clear hK K;refine wt 9 (.agg #[.slice sa src.length sc,.slice bY wh.length aI,.bool group,.slice ka keys.length kc,.slice ua sums.length uc,.slice ea aQ.length ec,.slice da ord.length dc,.slice none 0 0,.int .u64 (S:Int),.int .u64 (C:Int),.slice none 0 0,.slice none 0 0,.slice none 0 0]) hS ?_;refine wR 11 fun K hK=>?_
   go_simp;refine hK.out _ _ ((bU _ _).drew) (fun hS=>?_);clear hK K;refine wD ?_
   try simp only[pU]
   go_wp2_with fail;go_meet;exact⟨rfl,kG w2 _,hS⟩
 case rest=>
 obtain⟨rfl,hgf,hb3⟩:=hcut;obtain⟨w3,hw3⟩:∃ x,x=wc:=⟨_,rfl⟩
 subst hw3;have uJ:Hid (∀ x,Kept (fun b=>b≠w2.heap.size) w3 x->Below w2.heap.size w2 x):=fun x hk=>hb3.trans (hk.below hb3.size (fun b hb=>Nat.ne_of_lt hb))
 have HGF:Hid _:=hgf;have hlt3:=hgf.lt;have n0:=cB hb3 mJ;clear hgf hb3 hw1 hw2 hFO hFW;go_wp2;go_loopw [26] (fun iv wr=>∃ k:Nat,k<=src.length/\iv=.int .i64 k/\∃ cv rv,Hid (GB wr w2.heap.size 94 #[.slice sa src.length sc,.slice bY wh.length aI,.bool group,.slice ka keys.length kc,.slice ua sums.length uc,.slice ea aQ.length ec,.slice da ord.length dc,cv,.int .u64 (S:Int),.int .u64 (C:Int),rv,.slice none 0 0,.slice none 0 0])/\Hid (wr.ownsRow w3.heap.size 146 2 cv (bH ts src k).length ((bH ts src k).flatMap iq))/\Hid (wr.ownsRow w3.heap.size 42 1 rv (kS ts src k).length ((kS ts src k).map fun (x:Nat)=>.int .u64 (x:Int)))/\Hid (Kept (fun b=>b≠w2.heap.size) w3 wr)) (fun iv _=>src.length-(intOf iv).toNat)
 case atStart=>exact⟨0,QQ _,rfl,.slice none 0 0,.slice none 0 0,HGF.out,ZE _ _ _ _,ZE _ _ _ _,Q7 _ _⟩
 case round=>
  obtain⟨k,hk,rfl,cv,rv,HG,mO,MZ,nZ⟩:=hrel;have hbw:=uJ.out wr nZ.out;have q0:=cB hbw mJ;by_cases hlt:k<src.length
  ·obtain⟨sb,so,rfl,hsc⟩:=au.get (Qo hbw HQ.out.src) hlt;have hck:=hsc k hlt;obtain⟨hx0,hx1⟩:=uX Bz.out.src hlt;obtain⟨n,hn⟩:=ZZ hx0;have Po:wr.cell? (aD sb (so+k))=some (.int .i64 (n:Int)):=by rw[hck]; show some (Value.int .i64 (src.getD k 0))=_; rw[hn]
   have hn':n<ts.length:=by have h:src.getD k 0<(ts.length:Int):=hx1; rw[hn] at h; omega
   obtain⟨tb,tof,rfl,c0,c1,c2,c3,c4,c5⟩:=(aJ.below hbw HX.out).2 n hn';have htb:=uU Bz.out.cat hn';have WV:Hid (kS ts src (k+1)=kS ts src k++[(ts.getD n tz).rows.toNat]):=by
    show _=_
    rw[Hq];unfold pJ;rw[Q3,show (src.getD k 0).toNat=n by rw[hn]; rfl]
   have HCS:Hid (bH ts src (k+1)=bH ts src k++(List.range (ts.getD n tz).aH.toNat).map fun m=>(k,(ts.getD n tz).kd m)):=by
    show _=_
    rw[jo,show (src.getD k 0).toNat=n by rw[hn]; rfl]
   have T9:Hid (∀ m,(bH ts src k++((List.range (m+1)).map fun m=>(k,(ts.getD n tz).kd m))).flatMap iq=(bH ts src k++((List.range m).map fun m=>(k,(ts.getD n tz).kd m))).flatMap iq++iq (k,(ts.getD n tz).kd m)):=fun m=>by
    have:=Rj ts src k m;rw[show (src.getD k 0).toNat=n by rw[hn]; rfl] at this;exact this
   have Eo:Hid ((bH ts src k).length<=4*k):=xy Bz.out.cat Bz.out.src hsm k (by omega);have HRL:=Zh (l9 ts src k);unfold dC at htb;rw[Qx] at htb;obtain⟨tb1,tb2,tb3,tb4,tb5⟩:=htb;have HKB:=Zh tb5;clear hsc hck hx0 hx1 hn tb5;generalize bH ts src k=CK at *;generalize ts.getD n tz=t at *;obtain⟨R,hR⟩:=ZZ tb3;obtain⟨cn,hcn⟩:=ZZ (show 0<=t.aH by omega);rw[hR] at c1 tb4;rw[hcn] at c0 tb1 tb2;rw[hR,Q3] at WV;rw[hcn,Q3] at HCS HKB;obtain⟨wb,hwb,hkb,hgb⟩:=bu wr #[.int .i64 (cn:Int),.int .i64 (R:Int),.int .i64 t.k0,.int .i64 t.k1,.int .i64 t.k2,.int .i64 t.k3] 54;have b1:=hgb.at 1;clear hR hcn tb3;obtain⟨ra,rm,rc,rfl⟩:=ZA MZ.out;have abQ:=HG.out.of (hkb.block _ HG.out.lt);have f10:=abQ.at 10;have abR:=Z0 MZ.out hkb;have aj6:=Q4 nZ.out.size hkb.size;obtain⟨v',w5,pO,lD,hk5,⟨va,vm,vc,rfl⟩,hat⟩:=Jy wb w3.heap.size (.slice ra rm rc) (kS ts src k) abR (by rw[HRL.out]; omega) aj6 R 91;rw[<- WV.out] at lD;obtain⟨g5,gY,oY,kY⟩:=vw Tryz.Jw abQ abR lD hk5 hat 10;have f5:=g5.at 10;have z5:=g5.frozen 10;obtain⟨Y,hY⟩:∃ Y,w5.setCell (aD w2.heap.size 10) (.slice va vm vc)=Y:=⟨_,rfl⟩
   rw[hY] at gY oY kY;have hGY:GB Y w2.heap.size 94 #[.slice (some (aD sb so)) src.length sc,.slice bY wh.length aI,.bool group,.slice ka keys.length kc,.slice ua sums.length uc,.slice ea aQ.length ec,.slice da ord.length dc,cv,.int .u64 (S:Int),.int .u64 (C:Int),.slice va vm vc,.slice none 0 0,.slice none 0 0]:=gY;have afV:wr.heap.size≠w2.heap.size:=by have:=HG.out.lt; omega
   have afW:∀ b,(Value.slice ra rm rc).ownBlock=some b->w3.heap.size<=b/\b<wr.heap.size:=fun b h=>Zy MZ.out h
   have afX:=hgb.keep kY ⟨afV,fun e=>by have:=(afW _ e).2; omega⟩;have HKY:=Zh ((nZ.out.trans (Q9 hkb (fun b hb _=>hb))).trans' kY (fun b hb h=>⟨h,fun e=>by have:=(afW _ e).1; omega⟩));have HCY:=Zh (Zx (Z0 mO.out hkb) kY (fun g hg=>⟨fun e=>lF Tryz.OQ (Z0 mO.out hkb) abQ (by rw[hg,e]),vo Tryz.adg (Z0 mO.out hkb) abR hg⟩));have y0:=afX.at 0;have Ou:=hd afX;have HGY:Hid _:=hGY;have HOY:Hid _:=oY;have xz:Hid _:=afV;clear gY hGY oY kY afX afW lD hk5 hat abR abQ g5 hgb MZ mO HG WV aj6 nZ afV;go_wp2_with (first | (at_builtin; refine ZN rfl (.tmp 36) (.tmp 40) 91 rfl (.slice ra rm rc) (.slice (some (aD wb.heap.size 0)) 1 1) (.slice va vm vc) w5 rfl rfl pO ?_));clear pO;go_wp2;clear hY hwb f5 z5 f10 b1 hkb;obtain⟨w9,hw9⟩:∃ x,x=wr:=⟨_,rfl⟩
   subst hw9;go_loopw [48] (fun jv wx=>∃ m:Nat,m<=cn/\jv=.int .i64 m/\∃ cx,Hid (GB wx w2.heap.size 94 #[.slice (some (aD sb so)) src.length sc,.slice bY wh.length aI,.bool group,.slice ka keys.length kc,.slice ua sums.length uc,.slice ea aQ.length ec,.slice da ord.length dc,cx,.int .u64 (S:Int),.int .u64 (C:Int),.slice va vm vc,.slice none 0 0,.slice none 0 0])/\Hid (wx.ownsRow w3.heap.size 146 2 cx (CK.length+m) ((CK++((List.range m).map fun m=>(k,t.kd m))).flatMap iq))/\Hid (wx.ownsRow w3.heap.size 42 1 (.slice va vm vc) (kS ts src (k+1)).length ((kS ts src (k+1)).map fun (x:Nat)=>.int .u64 (x:Int)))/\Hid (Kept (fun b=>b≠w2.heap.size) w3 wx)/\Hid (GB wx w9.heap.size 54 #[.int .i64 (cn:Int),.int .i64 (R:Int),.int .i64 t.k0,.int .i64 t.k1,.int .i64 t.k2,.int .i64 t.k3])) (fun jv _=>cn-(intOf jv).toNat)
   case atStart=>exact⟨0,QQ _,rfl,cv,HGY.out,by show Hid _; rw[List.range_zero,List.map_nil,Xl]; exact HCY.out,HOY.out,HKY.out,Ou.out⟩
   case round=>
    obtain⟨m,hm,rfl,cx,HGX,YI,HRX,Wn,HTX⟩:=hrel;by_cases apI:m<cn
    ·obtain⟨hka,hkb2⟩:=HKB.out m apI;have kcl:=aj5 HTX.out (m:=m) (by omega);obtain⟨kn,hkn⟩:=ZZ (show 0<=t.kd m by omega);have pX:=Zh (T9.out m);rw[hkn] at kcl hkb2 pX;clear hka hkn;obtain⟨ca,cm,cc,rfl⟩:=ZA YI.out;have f7:=HGX.out.at 7;have apJ:=Wn.out.size;obtain⟨v',w5,pO,lD,hk5,⟨na,nm,nc,rfl⟩,hat⟩:=WX wr w3.heap.size (.slice ca cm cc) (CK.length+m) _ YI.out (by have:=Eo.out; omega) apJ k (kn:Int) 88;rw[<- pX.out] at lD;obtain⟨g5,gZ,oZ,kZ⟩:=vw Tryz.OQ HGX.out YI.out lD hk5 hat 7;have f5:=g5.at 7;have z5:=g5.frozen 7;obtain⟨Z,hZ⟩:∃ Z,w5.setCell (aD w2.heap.size 7) (.slice na nm nc)=Z:=⟨_,rfl⟩
     rw[hZ] at gZ oZ kZ;have HGZ:=hd gZ;have HOZ:Hid _:=oZ;have hlo:=fun b h=>Zy YI.out (g:=b) h
     have HTZ:=Zh (HTX.out.keep kZ ⟨xz.out,lF Tryz.aj4 YI.out HTX.out⟩);have HRZ:=Zh (Zx HRX.out kZ (fun g hg=>⟨fun e=>lF Tryz.Jw HRX.out HGX.out (by rw[hg,e]),fun e=>vo Tryz.adg YI.out HRX.out e hg⟩));have HKZ:=Zh (Wn.out.trans' kZ (fun b hb h=>⟨h,fun e=>by have:=(hlo _ e).1; omega⟩));clear gZ oZ kZ hk5 hat g5 lD hlo pX HGX YI HRX Wn HTX HGY HCY HOY HKY Ou HCS;go_wp2_with (first | (at_builtin; refine ZN rfl (.tmp 53) (.tmp 58) 88 rfl (.slice ca cm cc) (.slice (some (aD wr.heap.size 0)) 1 1) (.slice na nm nc) w5 rfl rfl pO ?_));clear pO;go_wp2;go_roundw
     case rel=>exact⟨m+1,by omega,by go_num,.slice na nm nc,HGZ.out,HOZ.out,HRZ.out,HKZ.out,HTZ.out⟩
     case measure=>simp[intOf]; omega
    ·obtain rfl:m=cn:=by omega
     clear HGY HCY HOY HKY Ou T9;go_wp2;go_roundw
     case rel=>
      refine⟨k+1,by omega,by go_num,cx,.slice va vm vc,HGX.out,?_,HRX.out,Wn.out⟩;have h:=YI.out;have e:=Zh HCS.out
      show Hid _
      rw[e.out,QT,QU,QV];exact h
     case measure=>simp[intOf]; omega
  ·obtain rfl:k=src.length:=by omega
   obtain⟨w4,hw4⟩:∃ x,x=wr:=⟨_,rfl⟩
   subst hw4;have Eo:Hid ((bH ts src src.length).length<=4*src.length):=xy Bz.out.cat Bz.out.src hsm src.length (Qq _);obtain⟨ca,cc,rfl,-⟩:=zI mO.out (by have:=Eo.out; omega);obtain⟨ra,rc,rfl,-⟩:=nP MZ.out (by rw[l9]; omega);rw[l9] at HG MZ;obtain⟨CL,Mm⟩:∃ CL,CL=aA ts ⟨⟨sa,sc,src⟩,bY,aI,wh,group,⟨ka,kc,keys⟩,⟨ua,uc,sums⟩,⟨ea,ec,aQ⟩,⟨da,dc,ord⟩⟩:=⟨_,rfl⟩
   obtain⟨PL,Sy⟩:∃ PL,PL=sM ts ⟨⟨sa,sc,src⟩,bY,aI,wh,group,⟨ka,kc,keys⟩,⟨ua,uc,sums⟩,⟨ea,ec,aQ⟩,⟨da,dc,ord⟩⟩:=⟨_,rfl⟩
   have aj9:=Zh Mm;have aka:=Zh Sy;have Te:Hid (CL.length=wh.length):=by rw[Mm]; exact ZQ ts ⟨⟨sa,sc,src⟩,bY,aI,wh,group,⟨ka,kc,keys⟩,⟨ua,uc,sums⟩,⟨ea,ec,aQ⟩,⟨da,dc,ord⟩⟩
   have Tf:Hid (PL.length=wh.length):=by rw[Sy]; exact CW ts ⟨⟨sa,sc,src⟩,bY,aI,wh,group,⟨ka,kc,keys⟩,⟨ua,uc,sums⟩,⟨ea,ec,aQ⟩,⟨da,dc,ord⟩⟩
   clear Mm Sy;have afY:Hid (∀ x,Kept (fun b=>b≠w2.heap.size) w4 x->jd x ca (bH ts src src.length)):=fun x hk=>by
    obtain⟨a,c,e,h⟩:=zI (Zx mO.out hk (fun g hg e=>lF Tryz.OQ mO.out HG.out (by rw[hg,e]))) (by have:=Eo.out; omega)
    cases e
    exact h
   have n1:=cB hbw sw;clear hbw q0 hk hlt;go_wp2;go_loopw [66] (fun iv wr=>∃ i:Nat,i<=wh.length/\iv=.int .i64 i/\∃ nv pv,Hid (GB wr w2.heap.size 94 #[.slice sa src.length sc,.slice bY wh.length aI,.bool group,.slice ka keys.length kc,.slice ua sums.length uc,.slice ea aQ.length ec,.slice da ord.length dc,.slice ca (bH ts src src.length).length cc,.int .u64 (S:Int),.int .u64 (C:Int),.slice ra src.length rc,nv,pv])/\Hid (wr.ownsRow w4.heap.size 90 1 (nv) (CL.take i).length ((CL.take i).map fun (x:Nat)=>.int .u64 (x:Int)))/\Hid (wr.ownsRow w4.heap.size 42 1 (pv) (PL.take i).length ((PL.take i).map fun (x:Nat)=>.int .u64 (x:Int)))/\Hid (Kept (fun b=>b≠w2.heap.size) w4 wr)) (fun iv _=>wh.length-(intOf iv).toNat)
   case atStart=>exact⟨0,QQ _,rfl,.slice none 0 0,.slice none 0 0,HG.out,ZE _ _ _ _,ZE _ _ _ _,Q7 _ _⟩
   case round=>
    obtain⟨i,hi,rfl,nv,pv,Y2,Mx,Vl,Y3⟩:=hrel;have WZ:=uJ.out wr (nZ.out.trans Y3.out);by_cases Ct:i<wh.length
    ·obtain⟨cb,co,MK,hcc⟩:=Qf (HQ.out.below WZ).wh.2.1 Ct;have hci:wr.cell? (aD cb (co+i))=some ((wh.getD i lz).val):=hcc i Ct;obtain⟨xcl,JB⟩:∃ x,x=wh.getD i lz:=⟨_,rfl⟩
     have hcs:aR wr xcl.ad xcl.cs:=by rw[JB]; exact (HQ.out.below WZ).wh.2.2 i Ct
     have hcs2:aR w2 xcl.ad xcl.cs:=by rw[JB]; exact HQ.out.wh.2.2 i Ct
     have kR:eT ts ⟨⟨sa,sc,src⟩,bY,aI,wh,group,⟨ka,kc,keys⟩,⟨ua,uc,sums⟩,⟨ea,ec,aQ⟩,⟨da,dc,ord⟩⟩ (bV xcl.cs):=by rw[JB]; exact Bz.out.aH i Ct
     have hsome:0<xcl.cs.length:=by rw[JB]; exact Bz.out.some i Ct
     have HCG:Hid (CL.getD i 0=bT (jF ts src xcl.cs)):=by show _=_; rw[aj9.out,JB]; exact CY ts ⟨⟨sa,sc,src⟩,bY,aI,wh,group,⟨ka,kc,keys⟩,⟨ua,uc,sums⟩,⟨ea,ec,aQ⟩,⟨da,dc,ord⟩⟩ Ct
     have HPG:Hid (PL.getD i 0=iF ts src xcl.cs):=by show _=_; rw[aka.out,JB]; exact wX ts ⟨⟨sa,sc,src⟩,bY,aI,wh,group,⟨ka,kc,keys⟩,⟨ua,uc,sums⟩,⟨ea,ec,aQ⟩,⟨da,dc,ord⟩⟩ Ct
     rw[<- JB] at hci;clear JB hcc;subst MK;obtain⟨ad,ccp,cs⟩:=xcl;unfold ay.val at hci;simp only at hci hcs hcs2 kR hsome HCG HPG;obtain⟨w8,hw8⟩:∃ x,x=wr:=⟨_,rfl⟩
     subst hw8;obtain⟨xa,xm,xc,rfl⟩:=ZA Mx.out;obtain⟨pa,pm,pc,rfl⟩:=ZA Vl.out;obtain⟨wb,hwb,hkb,akb⟩:=bu w8 #[.slice ad cs.length ccp] 77;have hcb:=akb.at 0;have sZ:=Zh (Y2.out.of (hkb.block _ Y2.out.lt));have HNb:=Zh (Z0 Mx.out hkb);have HPb:=Zh (Z0 Vl.out hkb);have HKb:=Zh (Y3.out.trans (Q9 hkb (fun b hb _=>hb)));have HBN:Hid (w8.heap.size≠w2.heap.size):=fun e=>by have:=Y2.out.lt; omega
     have X0:Hid (w8.heap.size≠w2.heap.size/\(Value.slice xa xm xc).ownBlock≠some w8.heap.size):=⟨HBN.out,fun e=>by have:=(Zy Mx.out e).2; omega⟩
     have apK:Hid ((Value.slice pa pm pc).ownBlock≠some w8.heap.size):=fun e=>by have:=(Zy Vl.out e).2; omega
     have apL:Hid _:=aR.below hkb hcs;have apM:=hd hcs2;have akc:Hid _:=kR;have apN:=Zh hsome;have HTC:=Zh (DC (by rw[Te.out]; exact Ct));have HTP:=Zh (DC (by rw[Tf.out]; exact Ct));generalize CL.getD i 0=cgi at *;generalize PL.getD i 0=pgi at *;have abU:Hid (∀ x,Below wb.heap.size wb x->Calls Tryz.prog 73 #[.agg #[.slice sa src.length sc,.slice (some (aD cb co)) wh.length aI,.bool group,.slice ka keys.length kc,.slice ua sums.length uc,.slice ea aQ.length ec,.slice da ord.length dc,.slice ca (bH ts src src.length).length cc,.int .u64 (S:Int),.int .u64 (C:Int),.slice ra src.length rc,.slice xa xm xc,.slice pa pm pc],.agg #[.slice ad cs.length ccp]] x fun e w'=>e=.returned (.int .u64 ((cgi:Nat):Int))/\Below x.heap.size x w'):=fun x hx=>by
      have h:=Ew ⟨ca,cc,ra,rc,xa,xm,xc,pa,pm,pc⟩ ts ⟨⟨sa,sc,src⟩,some (aD cb co),aI,wh,group,⟨ka,kc,keys⟩,⟨ua,uc,sums⟩,⟨ea,ec,aQ⟩,⟨da,dc,ord⟩⟩ ad ccp cs x Bz.out (afY.out x (HKb.out.trans (Q9 hx (fun b hb _=>hb)))) (aR.below hx (apL.out)) akc.out;simp only[aB.cells,ah.val,jI] at h;rw[<- HS.out,<- HCC.out] at h;rw[HCG.out];exact h
     have zt:Hid (∀ w6,Below wb.heap.size wb w6->∃ ya ym yc w7,(Builtin.append_ #[92,92] 92 #[.slice xa xm xc,.slice (some (aD w6.heap.size 0)) 1 1]).run Tryz.prog (w6.alloc (.cells #[.int .u64 ((cgi:Nat):Int)] 90))=.ok (.slice ya ym yc) w7/\Kept (fun b=>b≠w2.heap.size/\(Value.slice xa xm xc).ownBlock≠some b) wb w7/\
       w7.cell? (aD w2.heap.size 11)=some (.slice xa xm xc)/\w7.frozen? (aD w2.heap.size 11)=false/\Kept (fun b=>b≠w2.heap.size/\(Value.slice xa xm xc).ownBlock≠some b) wb (w7.setCell (aD w2.heap.size 11) (.slice ya ym yc))/\∃ nx,GB (w7.setCell (aD w2.heap.size 11) (.slice ya ym yc)) w2.heap.size 94 #[.slice sa src.length sc,.slice (some (aD cb co)) wh.length aI,.bool group,.slice ka keys.length kc,.slice ua sums.length uc,.slice ea aQ.length ec,.slice da ord.length dc,.slice ca (bH ts src src.length).length cc,.int .u64 (S:Int),.int .u64 (C:Int),.slice ra src.length rc,nx,.slice pa pm pc]/\(w7.setCell (aD w2.heap.size 11) (.slice ya ym yc)).ownsRow w4.heap.size 90 1 (nx) (CL.take (i+1)).length ((CL.take (i+1)).map fun (x:Nat)=>.int .u64 (x:Int))/\(w7.setCell (aD w2.heap.size 11) (.slice ya ym yc)).ownsRow w4.heap.size 42 1 (.slice pa pm pc) (PL.take i).length ((PL.take i).map fun (x:Nat)=>.int .u64 (x:Int))/\Kept (fun b=>b≠w2.heap.size) w4 (w7.setCell (aD w2.heap.size 11) (.slice ya ym yc))/\(w7.setCell (aD w2.heap.size 11) (.slice ya ym yc)).cell? (aD w8.heap.size 0)=some (.slice ad cs.length ccp)):=fun w6 hb6=>by
      have g6:=sZ.out.of (hb6.block _ sZ.out.lt);have o6:=Z0 HNb.out hb6;have k6:Kept (fun _=>True) wb w6:=Q9 hb6 (fun b hb _=>hb);obtain⟨v',w7,nL,Cn,jL,⟨ya,ym,yc,rfl⟩,hat⟩:=WW w6 w4.heap.size (.slice xa xm xc) (CL.take i) o6 (by rw[Q6]; have:=Te.out; omega) (Q4 HKb.out.size hb6.size) cgi 92;rw[<- HTC.out] at Cn;obtain⟨g7,gZ,oZ,kZ⟩:=vw Tryz.adf g6 o6 Cn jL hat 11;refine⟨ya,ym,yc,w7,nL,(k6.mono fun _ _ _=>trivial).trans (jL.mono fun _ _ h=>h.2),g7.cell 11,g7.frozen 11,(k6.mono fun _ _ _=>trivial).trans kZ,.slice ya ym yc,gZ,oZ,Zx (Z0 HPb.out hb6) kZ (fun g hg=>⟨fun e=>lF Tryz.Jw (Z0 HPb.out hb6) g6 (by rw[hg,e]),fun e=>vo Tryz.adh o6 (Z0 HPb.out hb6) e hg⟩),HKb.out.trans' ((k6.mono fun _ _ _=>trivial).trans kZ) (fun b hb h=>⟨h,fun e=>by have:=(Zy HNb.out e).1; omega⟩),Zr (cB hb6 hcb) kZ X0.out⟩
     have fL:=sZ.out.at 11;have cf0:=sZ.out.at 0;have cf1:=sZ.out.at 1;have cf2:=sZ.out.at 2;have cf3:=sZ.out.at 3;have cf4:=sZ.out.at 4;have cf5:=sZ.out.at 5;have cf6:=sZ.out.at 6;have cf7:=sZ.out.at 7;have cf8:=sZ.out.at 8;have cf9:=sZ.out.at 9;have Nq:=sZ.out.at 10;have akd:=sZ.out.at 12;clear akb hkb hcs hcs2 kR hsome Y2 Mx Vl Y3 WZ HG mO MZ;go_upto_region 16 with fail;clear hwb hci;go_cut [66] from 66 to 86 (fun iv wx=>iv=.int .i64 (i:Int)/\∃ nv,GB wx w2.heap.size 94 #[.slice sa src.length sc,.slice (some (aD cb co)) wh.length aI,.bool group,.slice ka keys.length kc,.slice ua sums.length uc,.slice ea aQ.length ec,.slice da ord.length dc,.slice ca (bH ts src src.length).length cc,.int .u64 (S:Int),.int .u64 (C:Int),.slice ra src.length rc,nv,.slice pa pm pc]/\wx.ownsRow w4.heap.size 90 1 (nv) (CL.take (i+1)).length ((CL.take (i+1)).map fun (x:Nat)=>.int .u64 (x:Int))/\wx.ownsRow w4.heap.size 42 1 (.slice pa pm pc) (PL.take i).length ((PL.take i).map fun (x:Nat)=>.int .u64 (x:Int))/\Kept (fun b=>b≠w2.heap.size) w4 wx/\wx.cell? (aD w8.heap.size 0)=some (.slice ad cs.length ccp))
     case first=>
      refine QL (S:=fun x=>Kept (fun b=>b≠w2.heap.size/\(Value.slice xa xm xc).ownBlock≠some b) wb x) (by kernel_rfl) (Q9 ((Qp _ _).drew) (fun b hb _=>hb)) (fun hS=>?_);refine wt 0 (.pointer (some (aD w2.heap.size 11))) hS ?_;refine wT 3 (.agg #[.slice ad cs.length ccp]) hS (fun x hx=>?_) ?_
      ·have e0:=Zr hcb hx X0.out;go_simp
      refine wJ 1 2 (fun K hK=>?_) fun K hK=>?_
      ·skip;go_simp;refine hK.out _ _ hS fun hS=>?_
       clear hK K;refine wR 2 fun K hK=>?_
       go_simp;refine hK.out _ _ hS fun hS=>?_
       clear hK K;refine wR 4 fun K hK=>?_
       go_simp;refine Z7 (abU.out _ ((Qp _ _).drew)) ?_;rintro e w6 ⟨rfl,hb6⟩;have hb6:Below wb.heap.size wb w6:=((Qp _ _).drew).trans hb6;have f6:=cB hb6 fL;refine hK.out _ _ (Q9 hb6 (fun b hb _=>hb)) (fun hS=>?_);clear hK K;refine wR 5 fun K hK=>?_
       go_simp;refine hK.out _ _ (hS.trans (Zc _ _)) (fun hS=>?_);clear hK K;refine wR 6 fun K hK=>?_
       obtain⟨ya,ym,yc,w7,nL,hs7,f7,z7,FK,Nr⟩:=zt.out w6 hb6;refine Xv (by rfl) _ _ _ (by rfl) (.slice xa xm xc) (.slice (some (aD w6.heap.size 0)) 1 1) (.slice ya ym yc) w7 (by rfl) (by rfl) nL ?_;refine hK.out _ _ hs7 fun hS=>?_
       clear hK K nL;refine wR 7 fun K hK=>?_
       go_simp;refine hK.out _ _ hS fun hS=>?_
       clear hK K;refine wR 8 fun K hK=>?_
       go_simp;refine hK.out _ _ FK fun hS=>?_
       clear hK K;refine wD ?_
       try simp only[pU]
       go_wp2_with fail;go_meet;exact⟨rfl,Nr⟩
      ·skip;go_simp;refine hK.out _ _ hS fun hS=>?_
       clear hK K;refine wJ 1 4 (fun K hK=>?_) fun K hK=>?_
       ·skip;go_simp;refine hK.out _ _ hS fun hS=>?_
        clear hK K;refine wR 4 fun K hK=>?_
        go_simp;refine Z7 (abU.out _ ((Qp _ _).drew)) ?_;rintro e w6 ⟨rfl,hb6⟩;have hb6:Below wb.heap.size wb w6:=((Qp _ _).drew).trans hb6;have f6:=cB hb6 fL;refine hK.out _ _ (Q9 hb6 (fun b hb _=>hb)) (fun hS=>?_);clear hK K;refine wR 5 fun K hK=>?_
        go_simp;refine hK.out _ _ (hS.trans (Zc _ _)) (fun hS=>?_);clear hK K;refine wR 6 fun K hK=>?_
        obtain⟨ya,ym,yc,w7,nL,hs7,f7,z7,FK,Nr⟩:=zt.out w6 hb6;refine Xv (by rfl) _ _ _ (by rfl) (.slice xa xm xc) (.slice (some (aD w6.heap.size 0)) 1 1) (.slice ya ym yc) w7 (by rfl) (by rfl) nL ?_;refine hK.out _ _ hs7 fun hS=>?_
        clear hK K nL;refine wR 7 fun K hK=>?_
        go_simp;refine hK.out _ _ hS fun hS=>?_
        clear hK K;refine wR 8 fun K hK=>?_
        go_simp;refine hK.out _ _ FK fun hS=>?_
        clear hK K;refine wD ?_
        try simp only[pU]
        go_wp2_with fail;go_meet;exact⟨rfl,Nr⟩
       ·skip;go_simp;refine Z7 (abU.out _ ((Qp _ _).drew)) ?_;rintro e w6 ⟨rfl,hb6⟩;have hb6:Below wb.heap.size wb w6:=((Qp _ _).drew).trans hb6;have f6:=cB hb6 fL;refine hK.out _ _ (Q9 hb6 (fun b hb _=>hb)) (fun hS=>?_);clear hK K;refine wJ 1 5 (fun K hK=>?_) fun K hK=>?_
        ·skip;go_simp;refine hK.out _ _ hS fun hS=>?_
         clear hK K;refine wR 5 fun K hK=>?_
         go_simp;refine hK.out _ _ (hS.trans (Zc _ _)) (fun hS=>?_);clear hK K;refine wR 6 fun K hK=>?_
         obtain⟨ya,ym,yc,w7,nL,hs7,f7,z7,FK,Nr⟩:=zt.out w6 hb6;refine Xv (by rfl) _ _ _ (by rfl) (.slice xa xm xc) (.slice (some (aD w6.heap.size 0)) 1 1) (.slice ya ym yc) w7 (by rfl) (by rfl) nL ?_;refine hK.out _ _ hs7 fun hS=>?_
         clear hK K nL;refine wR 7 fun K hK=>?_
         go_simp;refine hK.out _ _ hS fun hS=>?_
         clear hK K;refine wR 8 fun K hK=>?_
         go_simp;refine hK.out _ _ FK fun hS=>?_
         clear hK K;refine wD ?_
         try simp only[pU]
         go_wp2_with fail;go_meet;exact⟨rfl,Nr⟩
        ·skip;go_simp;refine hK.out _ _ (hS.trans (Zc _ _)) (fun hS=>?_);clear hK K;have f6a:(w6.alloc (.cells #[.int .u64 (cgi:Int)] 90)).cell? (aD w2.heap.size 11)=some (.slice xa xm xc):=cB (bU _ _) f6;refine wR 1 fun K hK=>?_
         go_simp;refine hK.out _ _ hS fun hS=>?_
         clear hK K;refine wR 6 fun K hK=>?_
         obtain⟨ya,ym,yc,w7,nL,hs7,f7,z7,FK,Nr⟩:=zt.out w6 hb6;refine Xv (by rfl) _ _ _ (by rfl) (.slice xa xm xc) (.slice (some (aD w6.heap.size 0)) 1 1) (.slice ya ym yc) w7 (by rfl) (by rfl) nL ?_;refine hK.out _ _ hs7 fun hS=>?_
         clear hK K nL;refine wR 7 fun K hK=>?_
         go_simp;refine hK.out _ _ hS fun hS=>?_
         clear hK K;refine wR 8 fun K hK=>?_
         go_simp;refine hK.out _ _ FK fun hS=>?_
         clear hK K;refine wD ?_
         try simp only[pU]
         go_wp2_with fail;go_meet;exact⟨rfl,Nr⟩
     case rest=>
      obtain⟨rfl,nv,h1,h2,h3,h4,h5⟩:=hcut;obtain⟨wd,hwd⟩:∃ x,x=wc:=⟨_,rfl⟩
      subst hwd;clear zt abU sZ HNb HPb cf0 cf1 cf2 cf3 cf4 cf5 cf6 cf7 cf8 cf9 Nq akd fL X0;obtain⟨na,nm,nc,rfl⟩:=ZA h2;have sZ:=hd h1;have HNb:=hd h2;have HPb:=hd h3;have hcb:=h5;have HKd:=hd h4;clear h1 h2 h3 h4 h5;have apO:=Zh (aR.below (uJ.out wd (nZ.out.trans HKd.out)) apM.out);have apP:=Zh apK.out;obtain⟨xa,ha⟩:∃ x,x=pa:=⟨_,rfl⟩
      obtain⟨xm,hm⟩:∃ x,x=pm:=⟨_,rfl⟩
      obtain⟨xc,hc⟩:∃ x,x=pc:=⟨_,rfl⟩
      subst ha hm hc;have X5:Hid (∀ x,Below wd.heap.size wd x->Calls Tryz.prog 74 #[.agg #[.slice sa src.length sc,.slice (some (aD cb co)) wh.length aI,.bool group,.slice ka keys.length kc,.slice ua sums.length uc,.slice ea aQ.length ec,.slice da ord.length dc,.slice ca (bH ts src src.length).length cc,.int .u64 (S:Int),.int .u64 (C:Int),.slice ra src.length rc,.slice na nm nc,.slice xa xm xc],.agg #[.slice ad cs.length ccp]] x fun e w'=>e=.returned (.int .u64 ((pgi:Nat):Int))/\Below x.heap.size x w'):=fun x hx=>by
       have h:=LP ⟨ca,cc,ra,rc,na,nm,nc,xa,xm,xc⟩ ts ⟨⟨sa,sc,src⟩,some (aD cb co),aI,wh,group,⟨ka,kc,keys⟩,⟨ua,uc,sums⟩,⟨ea,ec,aQ⟩,⟨da,dc,ord⟩⟩ ad ccp cs x Bz.out (afY.out x (HKd.out.trans (Q9 hx (fun b hb _=>hb)))) (aR.below hx (apO.out)) apN.out akc.out;simp only[aB.cells,ah.val,jI] at h;rw[<- HS.out,<- HCC.out] at h;rw[HPG.out];exact h
      have zt:Hid (∀ w6,Below wd.heap.size wd w6->∃ ya ym yc w7,(Builtin.append_ #[91,91] 91 #[.slice xa xm xc,.slice (some (aD w6.heap.size 0)) 1 1]).run Tryz.prog (w6.alloc (.cells #[.int .u64 ((pgi:Nat):Int)] 42))=.ok (.slice ya ym yc) w7/\Kept (fun b=>b≠w2.heap.size/\(Value.slice xa xm xc).ownBlock≠some b) wd w7/\
        w7.cell? (aD w2.heap.size 12)=some (.slice xa xm xc)/\w7.frozen? (aD w2.heap.size 12)=false/\Kept (fun b=>b≠w2.heap.size/\(Value.slice xa xm xc).ownBlock≠some b) wd (w7.setCell (aD w2.heap.size 12) (.slice ya ym yc))/\∃ nx,GB (w7.setCell (aD w2.heap.size 12) (.slice ya ym yc)) w2.heap.size 94 #[.slice sa src.length sc,.slice (some (aD cb co)) wh.length aI,.bool group,.slice ka keys.length kc,.slice ua sums.length uc,.slice ea aQ.length ec,.slice da ord.length dc,.slice ca (bH ts src src.length).length cc,.int .u64 (S:Int),.int .u64 (C:Int),.slice ra src.length rc,.slice na nm nc,nx]/\(w7.setCell (aD w2.heap.size 12) (.slice ya ym yc)).ownsRow w4.heap.size 90 1 (.slice na nm nc) (CL.take (i+1)).length ((CL.take (i+1)).map fun (x:Nat)=>.int .u64 (x:Int))/\(w7.setCell (aD w2.heap.size 12) (.slice ya ym yc)).ownsRow w4.heap.size 42 1 (nx) (PL.take (i+1)).length ((PL.take (i+1)).map fun (x:Nat)=>.int .u64 (x:Int))/\Kept (fun b=>b≠w2.heap.size) w4 (w7.setCell (aD w2.heap.size 12) (.slice ya ym yc))):=fun w6 hb6=>by
       have g6:=sZ.out.of (hb6.block _ sZ.out.lt);have o6:=Z0 HPb.out hb6;have k6:Kept (fun _=>True) wd w6:=Q9 hb6 (fun b hb _=>hb);obtain⟨v',w7,nL,Cn,jL,⟨ya,ym,yc,rfl⟩,hat⟩:=Jy w6 w4.heap.size (.slice xa xm xc) (PL.take i) o6 (by rw[Q6]; have:=Tf.out; omega) (Q4 HKd.out.size hb6.size) pgi 91;rw[<- HTP.out] at Cn;obtain⟨g7,gZ,oZ,kZ⟩:=vw Tryz.Jw g6 o6 Cn jL hat 12;refine⟨ya,ym,yc,w7,nL,(k6.mono fun _ _ _=>trivial).trans (jL.mono fun _ _ h=>h.2),g7.cell 12,g7.frozen 12,(k6.mono fun _ _ _=>trivial).trans kZ,.slice ya ym yc,gZ,Zx (Z0 HNb.out hb6) kZ (fun g hg=>⟨fun e=>lF Tryz.adf (Z0 HNb.out hb6) g6 (by rw[hg,e]),fun e=>vo Tryz.adh (Z0 HNb.out hb6) o6 hg e⟩),oZ,HKd.out.trans' ((k6.mono fun _ _ _=>trivial).trans kZ) (fun b hb h=>⟨h,fun e=>by have:=(Zy HPb.out e).1; omega⟩)⟩
      have fL:=sZ.out.at 12;have X0:Hid (w8.heap.size≠w2.heap.size/\(Value.slice xa xm xc).ownBlock≠some w8.heap.size):=⟨HBN.out,apP.out⟩
      have cf0:=sZ.out.at 0;have cf1:=sZ.out.at 1;have cf2:=sZ.out.at 2;have cf3:=sZ.out.at 3;have cf4:=sZ.out.at 4;have cf5:=sZ.out.at 5;have cf6:=sZ.out.at 6;have cf7:=sZ.out.at 7;have cf8:=sZ.out.at 8;have cf9:=sZ.out.at 9;have Nq:=sZ.out.at 10;have X6:=sZ.out.at 11;go_upto_region 17 with fail;refine QL (S:=fun x=>Kept (fun b=>b≠w2.heap.size/\(Value.slice xa xm xc).ownBlock≠some b) wd x) (by kernel_rfl) (Q9 ((Qp _ _).drew) (fun b hb _=>hb)) (fun hS=>?_);refine wt 0 (.pointer (some (aD w2.heap.size 12))) hS ?_;refine wT 3 (.agg #[.slice ad cs.length ccp]) hS (fun x hx=>?_) ?_
      ·have e0:=Zr hcb hx X0.out;go_simp
      refine wJ 1 2 (fun K hK=>?_) fun K hK=>?_
      ·skip;go_simp;refine hK.out _ _ hS fun hS=>?_
       clear hK K;refine wR 2 fun K hK=>?_
       go_simp;refine hK.out _ _ hS fun hS=>?_
       clear hK K;refine wR 4 fun K hK=>?_
       go_simp;refine Z7 (X5.out _ ((Qp _ _).drew)) ?_;rintro e w6 ⟨rfl,hb6⟩;have hb6:Below wd.heap.size wd w6:=((Qp _ _).drew).trans hb6;have f6:=cB hb6 fL;refine hK.out _ _ (Q9 hb6 (fun b hb _=>hb)) (fun hS=>?_);clear hK K;refine wR 5 fun K hK=>?_
       go_simp;refine hK.out _ _ (hS.trans (Zc _ _)) (fun hS=>?_);clear hK K;refine wR 6 fun K hK=>?_
       obtain⟨ya,ym,yc,w7,nL,hs7,f7,z7,FK,Nr⟩:=zt.out w6 hb6;refine Xv (by rfl) _ _ _ (by rfl) (.slice xa xm xc) (.slice (some (aD w6.heap.size 0)) 1 1) (.slice ya ym yc) w7 (by rfl) (by rfl) nL ?_;refine hK.out _ _ hs7 fun hS=>?_
       clear hK K nL;refine wR 7 fun K hK=>?_
       go_simp;refine hK.out _ _ hS fun hS=>?_
       clear hK K;refine wR 8 fun K hK=>?_
       go_simp;refine hK.out _ _ FK fun hS=>?_
       clear hK K;refine wD ?_
       try simp only[pU]
       obtain⟨nx,r1,r2,r3,r4⟩:=Nr;have HR1:Hid _:=r1;have HR2:Hid _:=r2;have HR3:Hid _:=r3;have HR4:=Zh r4;clear r1 r2 r3 r4 f7 z7 FK hs7 f6 hcb hS fL cf0 cf1 cf2 cf3 cf4 cf5 cf6 cf7 cf8 cf9 Nq X6;go_wp2;go_roundw
       case rel=>exact⟨i+1,by omega,by go_num,.slice na nm nc,nx,HR1.out,HR2.out,HR3.out,HR4.out⟩
       case measure=>simp[intOf]; omega
      ·skip;go_simp;refine hK.out _ _ hS fun hS=>?_
       clear hK K;refine wJ 1 4 (fun K hK=>?_) fun K hK=>?_
       ·skip;go_simp;refine hK.out _ _ hS fun hS=>?_
        clear hK K;refine wR 4 fun K hK=>?_
        go_simp;refine Z7 (X5.out _ ((Qp _ _).drew)) ?_;rintro e w6 ⟨rfl,hb6⟩;have hb6:Below wd.heap.size wd w6:=((Qp _ _).drew).trans hb6;have f6:=cB hb6 fL;refine hK.out _ _ (Q9 hb6 (fun b hb _=>hb)) (fun hS=>?_);clear hK K;refine wR 5 fun K hK=>?_
        go_simp;refine hK.out _ _ (hS.trans (Zc _ _)) (fun hS=>?_);clear hK K;refine wR 6 fun K hK=>?_
        obtain⟨ya,ym,yc,w7,nL,hs7,f7,z7,FK,Nr⟩:=zt.out w6 hb6;refine Xv (by rfl) _ _ _ (by rfl) (.slice xa xm xc) (.slice (some (aD w6.heap.size 0)) 1 1) (.slice ya ym yc) w7 (by rfl) (by rfl) nL ?_;refine hK.out _ _ hs7 fun hS=>?_
        clear hK K nL;refine wR 7 fun K hK=>?_
        go_simp;refine hK.out _ _ hS fun hS=>?_
        clear hK K;refine wR 8 fun K hK=>?_
        go_simp;refine hK.out _ _ FK fun hS=>?_
        clear hK K;refine wD ?_
        try simp only[pU]
        obtain⟨nx,r1,r2,r3,r4⟩:=Nr;have HR1:Hid _:=r1;have HR2:Hid _:=r2;have HR3:Hid _:=r3;have HR4:=Zh r4;clear r1 r2 r3 r4 f7 z7 FK hs7 f6 hcb hS fL cf0 cf1 cf2 cf3 cf4 cf5 cf6 cf7 cf8 cf9 Nq X6;go_wp2;go_roundw
        case rel=>exact⟨i+1,by omega,by go_num,.slice na nm nc,nx,HR1.out,HR2.out,HR3.out,HR4.out⟩
        case measure=>simp[intOf]; omega
       ·skip;go_simp;refine Z7 (X5.out _ ((Qp _ _).drew)) ?_;rintro e w6 ⟨rfl,hb6⟩;have hb6:Below wd.heap.size wd w6:=((Qp _ _).drew).trans hb6;have f6:=cB hb6 fL;refine hK.out _ _ (Q9 hb6 (fun b hb _=>hb)) (fun hS=>?_);clear hK K;refine wJ 1 5 (fun K hK=>?_) fun K hK=>?_
        ·skip;go_simp;refine hK.out _ _ hS fun hS=>?_
         clear hK K;refine wR 5 fun K hK=>?_
         go_simp;refine hK.out _ _ (hS.trans (Zc _ _)) (fun hS=>?_);clear hK K;refine wR 6 fun K hK=>?_
         obtain⟨ya,ym,yc,w7,nL,hs7,f7,z7,FK,Nr⟩:=zt.out w6 hb6;refine Xv (by rfl) _ _ _ (by rfl) (.slice xa xm xc) (.slice (some (aD w6.heap.size 0)) 1 1) (.slice ya ym yc) w7 (by rfl) (by rfl) nL ?_;refine hK.out _ _ hs7 fun hS=>?_
         clear hK K nL;refine wR 7 fun K hK=>?_
         go_simp;refine hK.out _ _ hS fun hS=>?_
         clear hK K;refine wR 8 fun K hK=>?_
         go_simp;refine hK.out _ _ FK fun hS=>?_
         clear hK K;refine wD ?_
         try simp only[pU]
         obtain⟨nx,r1,r2,r3,r4⟩:=Nr;have HR1:Hid _:=r1;have HR2:Hid _:=r2;have HR3:Hid _:=r3;have HR4:=Zh r4;clear r1 r2 r3 r4 f7 z7 FK hs7 f6 hcb hS fL cf0 cf1 cf2 cf3 cf4 cf5 cf6 cf7 cf8 cf9 Nq X6;go_wp2;go_roundw
         case rel=>exact⟨i+1,by omega,by go_num,.slice na nm nc,nx,HR1.out,HR2.out,HR3.out,HR4.out⟩
         case measure=>simp[intOf]; omega
        ·skip;go_simp;refine hK.out _ _ (hS.trans (Zc _ _)) (fun hS=>?_);clear hK K;have f6a:(w6.alloc (.cells #[.int .u64 (pgi:Int)] 42)).cell? (aD w2.heap.size 12)=some (.slice xa xm xc):=cB (bU _ _) f6;refine wR 1 fun K hK=>?_
         go_simp;refine hK.out _ _ hS fun hS=>?_
         clear hK K;refine wR 6 fun K hK=>?_
         obtain⟨ya,ym,yc,w7,nL,hs7,f7,z7,FK,Nr⟩:=zt.out w6 hb6;refine Xv (by rfl) _ _ _ (by rfl) (.slice xa xm xc) (.slice (some (aD w6.heap.size 0)) 1 1) (.slice ya ym yc) w7 (by rfl) (by rfl) nL ?_;refine hK.out _ _ hs7 fun hS=>?_
         clear hK K nL;refine wR 7 fun K hK=>?_
         go_simp;refine hK.out _ _ hS fun hS=>?_
         clear hK K;refine wR 8 fun K hK=>?_
         go_simp;refine hK.out _ _ FK fun hS=>?_
         clear hK K;refine wD ?_
         try simp only[pU]
         obtain⟨nx,r1,r2,r3,r4⟩:=Nr;have HR1:Hid _:=r1;have HR2:Hid _:=r2;have HR3:Hid _:=r3;have HR4:=Zh r4;clear r1 r2 r3 r4 f7 z7 FK hs7 f6 hcb hS fL cf0 cf1 cf2 cf3 cf4 cf5 cf6 cf7 cf8 cf9 Nq X6;go_wp2;go_roundw
         case rel=>exact⟨i+1,by omega,by go_num,.slice na nm nc,nx,HR1.out,HR2.out,HR3.out,HR4.out⟩
         case measure=>simp[intOf]; omega
    ·obtain rfl:i=wh.length:=by omega
     obtain⟨w5,uL⟩:∃ x,x=wr:=⟨_,rfl⟩
     subst uL;rw[ZY (by rw[Te.out]; exact Qq _)] at Mx;rw[ZY (by rw[Tf.out]; exact Qq _)] at Vl;obtain⟨na,nc,rfl,hna⟩:=nP Mx.out (by rw[Te.out]; omega);obtain⟨pa,pc,rfl,Oc⟩:=nP Vl.out (by rw[Tf.out]; omega);have ake:=Y2.out;have sF:=(show GB w2 w1.heap.size 94 #[.slice none 0 0,.slice none 0 0,.bool false,.slice none 0 0,.slice none 0 0,.slice none 0 0,.slice none 0 0,.slice none 0 0,.int .u64 0,.int .u64 0,.slice none 0 0,.slice none 0 0,.slice none 0 0] from vz.out).of (WZ.block _ (show GB w2 w1.heap.size 94 #[.slice none 0 0,.slice none 0 0,.bool false,.slice none 0 0,.slice none 0 0,.slice none 0 0,.slice none 0 0,.slice none 0 0,.int .u64 0,.int .u64 0,.slice none 0 0,.slice none 0 0,.slice none 0 0] from vz.out).lt);have h12:=(show GB w2 w1.heap.size 94 #[.slice none 0 0,.slice none 0 0,.bool false,.slice none 0 0,.slice none 0 0,.slice none 0 0,.slice none 0 0,.slice none 0 0,.int .u64 0,.int .u64 0,.slice none 0 0,.slice none 0 0,.slice none 0 0] from vz.out).lt;have hkZ:=World.Np w5 w1.heap.size (.slice sa src.length sc) (.slice bY wh.length aI) (.bool group) (.slice ka keys.length kc) (.slice ua sums.length uc) (.slice ea aQ.length ec) (.slice da ord.length dc) (.slice ca (bH ts src src.length).length cc) (.int .u64 (S:Int)) (.int .u64 (C:Int)) (.slice ra src.length rc) (.slice na CL.length nc) (.slice pa PL.length pc);have yT:=Zh (Td (World.WY sF (.slice sa src.length sc) (.slice bY wh.length aI) (.bool group) (.slice ka keys.length kc) (.slice ua sums.length uc) (.slice ea aQ.length ec) (.slice da ord.length dc) (.slice ca (bH ts src src.length).length cc) (.int .u64 (S:Int)) (.int .u64 (C:Int)) (.slice ra src.length rc) (.slice na CL.length nc) (.slice pa PL.length pc)));have hown1:∀ {e:TypeId} {base sz n:Nat} {v:Value} {xs:List Value},w2.heap.size<=base->w5.ownsRow base e sz v n xs->(World.rE w5 w1.heap.size (.slice sa src.length sc) (.slice bY wh.length aI) (.bool group) (.slice ka keys.length kc) (.slice ua sums.length uc) (.slice ea aQ.length ec) (.slice da ord.length dc) (.slice ca (bH ts src src.length).length cc) (.int .u64 (S:Int)) (.int .u64 (C:Int)) (.slice ra src.length rc) (.slice na CL.length nc) (.slice pa PL.length pc)).ownsRow base e sz v n xs:=fun hb h=>Zx h hkZ (fun g hg e=>by have:=(Zy h hg).1; omega)
     have awR:=nZ.out.size;have hww:=HWW.out;have HBZ:Below w.heap.size w (World.rE w5 w1.heap.size (.slice sa src.length sc) (.slice bY wh.length aI) (.bool group) (.slice ka keys.length kc) (.slice ua sums.length uc) (.slice ea aQ.length ec) (.slice da ord.length dc) (.slice ca (bH ts src src.length).length cc) (.int .u64 (S:Int)) (.int .u64 (C:Int)) (.slice ra src.length rc) (.slice na CL.length nc) (.slice pa PL.length pc)):=by
      have h1:=Vm.out.trans (WZ.mono Vm.out.size);exact h1.trans (hkZ.below h1.size (fun b hb=>by have:=wO.out.size; have:=HWW.out; omega))
     have gQ:Hid (∃ f:aB,Ending.returned (.agg #[.slice sa src.length sc,.slice bY wh.length aI,.bool group,.slice ka keys.length kc,.slice ua sums.length uc,.slice ea aQ.length ec,.slice da ord.length dc,.slice ca (bH ts src src.length).length cc,.int .u64 (S:Int),.int .u64 (C:Int),.slice ra src.length rc,.slice na CL.length nc,.slice pa PL.length pc])=.returned (.agg (f.cells ts ⟨⟨sa,sc,src⟩,bY,aI,wh,group,⟨ka,kc,keys⟩,⟨ua,uc,sums⟩,⟨ea,ec,aQ⟩,⟨da,dc,ord⟩⟩))/\f.At ts ⟨⟨sa,sc,src⟩,bY,aI,wh,group,⟨ka,kc,keys⟩,⟨ua,uc,sums⟩,⟨ea,ec,aQ⟩,⟨da,dc,ord⟩⟩ (World.rE w5 w1.heap.size (.slice sa src.length sc) (.slice bY wh.length aI) (.bool group) (.slice ka keys.length kc) (.slice ua sums.length uc) (.slice ea aQ.length ec) (.slice da ord.length dc) (.slice ca (bH ts src src.length).length cc) (.int .u64 (S:Int)) (.int .u64 (C:Int)) (.slice ra src.length rc) (.slice na CL.length nc) (.slice pa PL.length pc))/\f.New w.heap.size/\Below w.heap.size w (World.rE w5 w1.heap.size (.slice sa src.length sc) (.slice bY wh.length aI) (.bool group) (.slice ka keys.length kc) (.slice ua sums.length uc) (.slice ea aQ.length ec) (.slice da ord.length dc) (.slice ca (bH ts src src.length).length cc) (.int .u64 (S:Int)) (.int .u64 (C:Int)) (.slice ra src.length rc) (.slice na CL.length nc) (.slice pa PL.length pc))):=by
      refine⟨⟨ca,cc,ra,rc,na,CL.length,nc,pa,PL.length,pc⟩,?_,⟨?_,?_,?_,?_,?_,?_,?_⟩,⟨?_,?_,?_,?_⟩,HBZ⟩
      ·simp only[aB.cells,ah.val,jI];rw[<- HS.out,<- HCC.out]
      ·exact HQ0.out.below HBZ
      ·have hk4:Kept (fun b=>b≠w2.heap.size/\b≠w1.heap.size) w4 (World.rE w5 w1.heap.size (.slice sa src.length sc) (.slice bY wh.length aI) (.bool group) (.slice ka keys.length kc) (.slice ua sums.length uc) (.slice ea aQ.length ec) (.slice da ord.length dc) (.slice ca (bH ts src src.length).length cc) (.int .u64 (S:Int)) (.int .u64 (C:Int)) (.slice ra src.length rc) (.slice na CL.length nc) (.slice pa PL.length pc)):=(Y3.out.mono fun _ _ h=>h.1).trans (hkZ.mono fun _ _ h=>h.2);obtain⟨a,c,e,h⟩:=zI (Zx mO.out hk4 (fun g hg=>⟨fun e=>lF Tryz.OQ mO.out HG.out (by rw[hg,e]),by have:=(Zy mO.out hg).1; omega⟩)) (by have:=Eo.out; omega)
       cases e
       exact h
      ·have hk4:Kept (fun b=>b≠w2.heap.size/\b≠w1.heap.size) w4 (World.rE w5 w1.heap.size (.slice sa src.length sc) (.slice bY wh.length aI) (.bool group) (.slice ka keys.length kc) (.slice ua sums.length uc) (.slice ea aQ.length ec) (.slice da ord.length dc) (.slice ca (bH ts src src.length).length cc) (.int .u64 (S:Int)) (.int .u64 (C:Int)) (.slice ra src.length rc) (.slice na CL.length nc) (.slice pa PL.length pc)):=(Y3.out.mono fun _ _ h=>h.1).trans (hkZ.mono fun _ _ h=>h.2);obtain⟨a,c,e,h⟩:=nP (Zx MZ.out hk4 (fun g hg=>⟨fun e=>lF Tryz.Jw MZ.out HG.out (by rw[hg,e]),by have:=(Zy MZ.out hg).1; omega⟩)) (by rw[l9]; omega);rw[l9] at e
       cases e
       exact h
      ·obtain⟨a,c,e,h⟩:=nP (hown1 (by omega) Mx.out) (by rw[Te.out]; omega)
       cases e
       rw[<- aj9.out];exact h
      ·obtain⟨a,c,e,h⟩:=nP (hown1 (by omega) Vl.out) (by rw[Tf.out]; omega)
       cases e
       rw[<- aka.out];exact h
      ·exact Te.out
      ·exact Tf.out
      ·rintro a rfl;have:=(Zy mO.out (g:=a.block) rfl).1;omega
      ·rintro a rfl;have:=(Zy MZ.out (g:=a.block) rfl).1;omega
      ·rintro a rfl;have:=(Zy Mx.out (g:=a.block) rfl).1;omega
      ·rintro a rfl;have:=(Zy Vl.out (g:=a.block) rfl).1;omega
     unfold World.rE at gQ yT;obtain⟨cf0,cf1,cf2,cf3,cf4,cf5,cf6,cf7,cf8,cf9,Nq,X6,akd⟩:=ake.k13;obtain⟨cr0,cr1,cr2,cr3,cr4,cr5,cr6,cr7,cr8,cr9,awS,awT,awU⟩:=sF.k13;have cz0:=sF.frozen 0;have cz1:=sF.frozen 1;have cz2:=sF.frozen 2;have cz3:=sF.frozen 3;have cz4:=sF.frozen 4;have cz5:=sF.frozen 5;have cz6:=sF.frozen 6;have cz7:=sF.frozen 7;have cz8:=sF.frozen 8;have cz9:=sF.frozen 9;have awV:=sF.frozen 10;have awW:=sF.frozen 11;have awX:=sF.frozen 12;clear ake sF hkZ hown1 HBZ Y2 Mx Vl Y3 HG mO MZ hna Oc afY;go_wp2;exact Xi (iL (p:=4) rfl rfl yT.out) rfl gQ.out
