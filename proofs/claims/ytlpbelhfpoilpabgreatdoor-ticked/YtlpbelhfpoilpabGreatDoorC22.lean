import Derived.Deep.CutRange
import Derived.Test.YtlpbelhfpoilpabGreatDoorC01
import Derived.Test.YtlpbelhfpoilpabGreatDoorC21
set_option linter.all false
set_option maxRecDepth 100000
set_option maxHeartbeats 16000000
namespace Go.Proofs.YtlpbelhfpoilpabGreatDoor
open Go.RowKit Go.Scout
theorem sourcesOf_one (f:FactsV) (ts:List TableD) (q:QueryV) (b:Nat) (c:Int) (w:World) (ok:Ok ts q) (hf:ColsAt w f.ca (colsN ts q)) (h0:w.cell? (aD b 0)=some (.int .i64 c)) (hc:ColOk ts q [c]) :
  Calls Tryz.prog 68 #[.agg (f.cells ts q),.slice (some (aD b 0)) 1 1] w fun e w'=>e=.returned (.int .u64 ((2 ^ sourceN ts q.src.xs c:Nat):Int))/\Below w.heap.size w w':=by
 have h:=sourcesOf_any f ts q (some (aD b 0)) 1 [c] w ok hf ⟨by simp,fun i hi=>⟨b,0,rfl,by
  have hi':i<1:=hi;obtain rfl:i=0:=by omega
  exact h0⟩⟩ hc
 have e:setN (srcL ts q [c])=2 ^ sourceN ts q.src.xs c:=setN_one _;rw[e] at h;exact h
theorem keyColumns_any (f:FactsV) (ts:List TableD) (q:QueryV) (n:NodeV) (l r:PartV) (w:World) (ok:Ok ts q) (hf:f.At ts q w) (hn:n.cl.At w) (hl:l.sources<=topN) (hr:r.sources<=topN) :
  Calls Tryz.prog 133 #[.agg (f.cells ts q),.agg n.cells,.agg l.cells,.agg r.cells] w fun e w'=>e=.returned (.tuple #[.int .i64 (keyP ts q n l.sources r.sources).1,.int .i64 (keyP ts q n l.sources r.sources).2.1,.bool (keyP ts q n l.sources r.sources).2.2])/\Below w.heap.size w w':=by
 obtain⟨v0,v1,v2,v3,v4,v5,v6,v7,v8,v9,v10,v11,v12,hFC,-,hv1,-⟩:=factsCells f ts q;obtain⟨w1,hw1,hk1,hg1⟩:=newB w ((f.cells ts q)) 79;obtain⟨w2,hw2,hk2,hg2⟩:=newB w1 n.cells 61;obtain⟨w3,hw3,hk3,hg3⟩:=newB w2 l.cells 92;obtain⟨w4,hw4,hk4,hg4⟩:=newB w3 r.cells 92;have hc3:=hk4;have hc2:Below w2.heap.size w2 w4:=bQ1 hk3 hc3;have hc1:Below w1.heap.size w1 w4:=bQ1 hk2 hc2;have hc0:Below w.heap.size w w4:=bQ1 hk1 hc1;have gg1:GB w4 w.heap.size 79 (f.cells ts q):=hg1.of (hc1.block _ hg1.lt);have gg2:GB w4 w1.heap.size 61 n.cells:=hg2.of (hc2.block _ hg2.lt);have g2_4:w4.cell? (aD w1.heap.size 4)=some (n.cl.val):=gg2.cell 4;have g2_5:w4.cell? (aD w1.heap.size 5)=some (.int .i64 n.key):=gg2.cell 5;have gg3:GB w4 w2.heap.size 92 l.cells:=hg3.of (hc3.block _ hg3.lt);have g3_1:w4.cell? (aD w2.heap.size 1)=some (.int .u64 (l.sources:Int)):=gg3.cell 1;have gg4:=hg4;have g4_1:w4.cell? (aD w3.heap.size 1)=some (.int .u64 (r.sources:Int)):=gg4.cell 1;have g1_0:w4.cell? (aD w.heap.size 0)=some v0:=by rw[hFC] at gg1; exact gg1.cell 0
 have g1_1:w4.cell? (aD w.heap.size 1)=some v1:=by rw[hFC] at gg1; exact gg1.cell 1
 have g1_2:w4.cell? (aD w.heap.size 2)=some v2:=by rw[hFC] at gg1; exact gg1.cell 2
 have g1_3:w4.cell? (aD w.heap.size 3)=some v3:=by rw[hFC] at gg1; exact gg1.cell 3
 have g1_4:w4.cell? (aD w.heap.size 4)=some v4:=by rw[hFC] at gg1; exact gg1.cell 4
 have g1_5:w4.cell? (aD w.heap.size 5)=some v5:=by rw[hFC] at gg1; exact gg1.cell 5
 have g1_6:w4.cell? (aD w.heap.size 6)=some v6:=by rw[hFC] at gg1; exact gg1.cell 6
 have g1_7:w4.cell? (aD w.heap.size 7)=some v7:=by rw[hFC] at gg1; exact gg1.cell 7
 have g1_8:w4.cell? (aD w.heap.size 8)=some v8:=by rw[hFC] at gg1; exact gg1.cell 8
 have g1_9:w4.cell? (aD w.heap.size 9)=some v9:=by rw[hFC] at gg1; exact gg1.cell 9
 have g1_10:w4.cell? (aD w.heap.size 10)=some v10:=by rw[hFC] at gg1; exact gg1.cell 10
 have g1_11:w4.cell? (aD w.heap.size 11)=some v11:=by rw[hFC] at gg1; exact gg1.cell 11
 have g1_12:w4.cell? (aD w.heap.size 12)=some v12:=by rw[hFC] at gg1; exact gg1.cell 12
 have hla:l.sources<18446744073709551616:=by unfold topN at hl; omega
 have hra:r.sources<18446744073709551616:=by unfold topN at hr; omega
 have HCT:Hid _:=contains_any n.cl.ad n.cl.cap n.cl.xs n.key w4 (IntsAt.below hc0 hn);have HKE:Hid (keyP ts q n l.sources r.sources=if n.key∈n.cl.xs/\0<=n.key/\n.key<q.wh.length then keysP ts q.src.xs (q.wh.getD n.key.toNat lz).cs l.sources r.sources else (0,0,false)):=rfl;have HSO:Hid (∀ x b c,Below w4.heap.size w4 x->x.cell? (aD b 0)=some (.int .i64 c)->ColOk ts q [c]->Calls Tryz.prog 68 #[.agg (f.cells ts q),.slice (some (aD b 0)) 1 1] x fun e w'=>e=.returned (.int .u64 ((2 ^ sourceN ts q.src.xs c:Nat):Int))/\Below x.heap.size x w'):=
  fun x b c hb h0 hc=>sourcesOf_one f ts q b c x ok (hf.cols.below (bQ1 hc0 hb)) h0 hc
 have HP:Hid (∀ c,ColOk ts q [c]->2 ^ sourceN ts q.src.xs c<18446744073709551616):=fun c hc=>by
  obtain⟨h0,h1⟩:=hc c (by simp);exact Nat.pow_lt_pow_right (n:=64) (by omega) (Nat.lt_of_lt_of_le (srcOf_lt ok h0 h1) ok.small)
 have HCA:Hid (∀ x m,m<18446744073709551616->_):=fun x m hm=>covers_any l.sources m hla hm x
 have HCB:Hid (∀ x m,m<18446744073709551616->_):=fun x m hm=>covers_any r.sources m hra hm x
 have HWH:Hid (∀ k,k<q.wh.length->(∃ b off,q.wad=some (aD b off)/\w4.cell? (aD b (off+k))=some (.slice (q.wh.getD k lz).ad (q.wh.getD k lz).cs.length (q.wh.getD k lz).cap))/\CondsAt w4 (q.wh.getD k lz).ad (q.wh.getD k lz).cs/\0<(q.wh.getD k lz).cs.length):=fun k hk=>by
  have hW:=hf.query.wh.below hc0;obtain⟨b,off,e,hc⟩:=hW.2.1 k hk;exact⟨⟨b,off,e,hc⟩,hW.2.2 k hk,ok.some k hk⟩
 have HEO:Hid (∀ k,k<q.wh.length->_):=fun k hk=>@eqCols_ok ts q ok k hk
 have hwl:=hf.query.wh.1;have HC:Hid _:=hc0;rw[hFC] at HSO hw1 ⊢;subst hv1;obtain⟨nk,nl,nr,ns,⟨na,nc,nx⟩,ny,no⟩:=n;unfold IntsV.val at *;simp only at *;generalize hKV:keyP ts q _ l.sources r.sources=KV at *;clear hKV;generalize NodeV.cells _=NC at *;generalize l.cells=LC at *;generalize r.cells=RC at *;generalize l.sources=a at *;generalize r.sources=b at *;clear hc0 hc1 hc2 hc3 hk1 hk2 hk3 hk4 hg1 hg2 hg3 hg4 gg1 gg2 gg3 gg4 hf ok hn hl hr hla hra hFC;have hCT:=HCT.out;clear HCT;by_cases hin:ny∈nx
 ·rw[decide_eq_true hin] at hCT;by_cases h0:ny<0
  ·obtain rfl:KV=(0,0,false):=by rw[HKE.out,if_neg (fun h=>absurd h.2.1 (by omega))]
   clear HKE HSO HCA HCB HWH HEO HP;go_enter Tryz.func133,Tryz.ntmps133;go_wp2_with fail;refine Calls.mono hCT ?_;clear hCT;rintro e w5 ⟨rfl,rfl⟩;go_wp2;go_ret3;exact⟨rfl,HC.out⟩
  by_cases h1:(q.wh.length:Int)<=ny
  ·obtain rfl:KV=(0,0,false):=by rw[HKE.out,if_neg (fun h=>absurd h.2.2 (by omega))]
   clear HKE HSO HCA HCB HWH HEO HP;go_enter Tryz.func133,Tryz.ntmps133;go_wp2_with fail;refine Calls.mono hCT ?_;clear hCT;rintro e w5 ⟨rfl,rfl⟩;go_wp2;go_ret3;exact⟨rfl,HC.out⟩
  obtain⟨k,rfl⟩:=Int.eq_ofNat_of_zero_le (show 0<=ny by omega);have hk:k<q.wh.length:=by omega
  have HK2:Hid _:=HKE.out;rw[if_pos ⟨hin,by omega,by omega⟩,Int.toNat_natCast,keysP_eq] at HK2;obtain⟨⟨qb,qo,hqw,hqc⟩,hcond,hpos⟩:=HWH.out k hk;have HEO':Hid _:=HEO.out k hk;rw[hqw] at g1_1 HSO hw1 ⊢;have hEC:=equalColumns_any (q.wh.getD k lz).ad (q.wh.getD k lz).cap (q.wh.getD k lz).cs w4 hcond hpos;clear HKE HWH HEO hcond hpos hqw hin;generalize (q.wh.getD k lz).cap=ccap at *;generalize (q.wh.getD k lz).ad=cad at *;generalize (q.wh.getD k lz).cs=cs at *;generalize eqCols cs=EC at *;obtain⟨EL,ER,EB⟩:=EC;simp only at *;generalize hNW:q.wh.length=nw at *;clear hNW
  cases EB with
  | false =>
   obtain rfl:KV=(0,0,false):=by rw[HK2.out,if_pos rfl]
   clear HK2 HSO HCA HCB HEO' HP;go_enter Tryz.func133,Tryz.ntmps133;go_wp2_with fail;refine Calls.mono hCT ?_;clear hCT;rintro e w5 ⟨rfl,rfl⟩;go_wp2_with fail;refine Calls.mono hEC ?_;clear hEC;rintro e w6 ⟨rfl,hb6⟩;have HB6:Hid _:=bQ1 HC.out hb6;clear hb6;go_wp2;go_ret3;exact⟨rfl,HB6.out⟩
  | true =>
   obtain⟨hoL,hoR⟩:=HEO'.out rfl;have hpL:=HP.out EL hoL;have hpR:=HP.out ER hoR;have HSL:Hid (∀ x b,_->_->_):=fun x b hb h0=>HSO.out x b EL hb h0 hoL
   have HSR:Hid (∀ x b,_->_->_):=fun x b hb h0=>HSO.out x b ER hb h0 hoR
   rw[if_neg (by simp)] at HK2;generalize 2 ^ sourceN ts q.src.xs EL=SL at *;generalize 2 ^ sourceN ts q.src.xs ER=SR at *;have HAL:Hid (∀ x,_):=fun x=>HCA.out x SL hpL
   have HAR:Hid (∀ x,_):=fun x=>HCA.out x SR hpR
   have HBL:Hid (∀ x,_):=fun x=>HCB.out x SL hpL
   have HBR:Hid (∀ x,_):=fun x=>HCB.out x SR hpR
   generalize coversB a SL=AL at *;generalize coversB a SR=AR at *;generalize coversB b SL=BL at *;generalize coversB b SR=BR at *;clear HEO' HP HSO HCA HCB hoL hoR hpL hpR;go_enter Tryz.func133,Tryz.ntmps133;go_wp2_with fail;refine Calls.mono hCT ?_;clear hCT;rintro e w5 ⟨rfl,rfl⟩;go_wp2_with fail;refine Calls.mono hEC ?_;clear hEC hw1 hw2 hw3 hw4;rintro e w6 ⟨rfl,hb6⟩;have f3_1:=cB hb6 g3_1;have f4_1:=cB hb6 g4_1;have f1_0:=cB hb6 g1_0;have f1_1:=cB hb6 g1_1;have f1_2:=cB hb6 g1_2;have f1_3:=cB hb6 g1_3;have f1_4:=cB hb6 g1_4;have f1_5:=cB hb6 g1_5;have f1_6:=cB hb6 g1_6;have f1_7:=cB hb6 g1_7;have f1_8:=cB hb6 g1_8;have f1_9:=cB hb6 g1_9;have f1_10:=cB hb6 g1_10;have f1_11:=cB hb6 g1_11;have f1_12:=cB hb6 g1_12;have HB6:Hid _:=hb6;have HC6:Hid _:=bQ1 HC.out hb6;clear hb6 hqc g2_4 g2_5 g3_1 g4_1 g1_0 g1_1 g1_2 g1_3 g1_4 g1_5 g1_6 g1_7 g1_8 g1_9 g1_10 g1_11 g1_12;go_upto_region 6 with fail;go_cut [48] from 49 to 64 (fun c wx=>c=.bool (AL&&BR)/\Below w6.heap.size w6 wx)
   case first=>
    cases AL with
    | true =>
     refine wp_region_held_drew (S:=fun x=>Below w6.heap.size w6 x) (by kernel_rfl) ((Below.refl _ _).drew) (fun hS=>?_);refine wT 0 (.pointer (some (aD w2.heap.size 1))) hS (fun x hx=>?_) ?_
     ·go_simp
     refine wT 1 (.int .u64 (a:Int)) hS (fun x hx=>?_) ?_
     ·have e0:=cB hx f3_1;go_simp
     refine wT 2 (.agg #[v0,.slice (some (aD qb qo)) nw q.wcap,v2,v3,v4,v5,v6,v7,v8,v9,v10,v11,v12]) hS (fun x hx=>?_) ?_
     ·have e0:=cB hx f1_0;have e1:=cB hx f1_1;have e2:=cB hx f1_2;have e3:=cB hx f1_3;have e4:=cB hx f1_4;have e5:=cB hx f1_5;have e6:=cB hx f1_6;have e7:=cB hx f1_7;have e8:=cB hx f1_8;have e9:=cB hx f1_9;have e10:=cB hx f1_10;have e11:=cB hx f1_11;have e12:=cB hx f1_12;go_simp
     refine wT 3 (.int .i64 EL) hS (fun x hx=>?_) ?_
     ·go_simp
     refine wR 4 fun K hK=>?_
     go_simp;refine hK.out _ _ (hS.trans (bQ2 _ _ |>.mono hS.size)) (fun hS=>?_);clear hK K;refine wR 5 fun K hK=>?_
     go_simp;refine Calls.mono (HSL.out _ w6.heap.size (bQ1 HB6.out hS) (by simp)) ?_;rintro e wy ⟨rfl,hby⟩;refine hK.out _ _ (hS.trans (hby.mono hS.size)) (fun hS=>?_);clear hK K;refine wR 6 fun K hK=>?_
     go_simp;refine Calls.mono (HAL.out _) ?_;rintro e wz ⟨rfl,rfl⟩;refine hK.out _ _ (hS) (fun hS=>?_);clear hK K;refine wR 7 fun K hK=>?_
     go_simp;refine hK.out _ _ hS (fun hS=>?_);clear hK K;refine wT 8 (.pointer (some (aD w3.heap.size 1))) hS (fun x hx=>?_) ?_
     ·go_simp
     refine wT 9 (.int .u64 (b:Int)) hS (fun x hx=>?_) ?_
     ·have e0:=cB hx f4_1;go_simp
     refine wT 10 (.agg #[v0,.slice (some (aD qb qo)) nw q.wcap,v2,v3,v4,v5,v6,v7,v8,v9,v10,v11,v12]) hS (fun x hx=>?_) ?_
     ·have e0:=cB hx f1_0;have e1:=cB hx f1_1;have e2:=cB hx f1_2;have e3:=cB hx f1_3;have e4:=cB hx f1_4;have e5:=cB hx f1_5;have e6:=cB hx f1_6;have e7:=cB hx f1_7;have e8:=cB hx f1_8;have e9:=cB hx f1_9;have e10:=cB hx f1_10;have e11:=cB hx f1_11;have e12:=cB hx f1_12;go_simp
     refine wT 11 (.int .i64 ER) hS (fun x hx=>?_) ?_
     ·go_simp
     refine wR 12 fun K hK=>?_
     go_simp;refine hK.out _ _ (hS.trans (bQ2 _ _ |>.mono hS.size)) (fun hS=>?_);clear hK K;refine wR 13 fun K hK=>?_
     go_simp;refine Calls.mono (HSR.out _ wz.heap.size (bQ1 HB6.out hS) (by simp)) ?_;rintro e wu ⟨rfl,hbu⟩;refine hK.out _ _ (hS.trans (hbu.mono hS.size)) (fun hS=>?_);clear hK K;refine wR 14 fun K hK=>?_
     go_simp;refine Calls.mono (HBR.out _) ?_;rintro e wv ⟨rfl,rfl⟩;refine hK.out _ _ (hS) (fun hS=>?_);clear hK K;refine wR 15 fun K hK=>?_
     go_simp;refine hK.out _ _ hS (fun hS=>?_);clear hK K;refine wR 16 fun K hK=>?_
     go_simp;refine hK.out _ _ hS (fun hS=>?_);clear hK K;refine wpAnyH_done (by kernel_rfl) ?_ _
     try simp only[pA,sB,sC]
     go_wp2_with fail;go_meet;exact⟨rfl,hS⟩
    | false =>
     refine wp_region_held_drew (S:=fun x=>Below w6.heap.size w6 x) (by kernel_rfl) ((Below.refl _ _).drew) (fun hS=>?_);refine wT 0 (.pointer (some (aD w2.heap.size 1))) hS (fun x hx=>?_) ?_
     ·go_simp
     refine wT 1 (.int .u64 (a:Int)) hS (fun x hx=>?_) ?_
     ·have e0:=cB hx f3_1;go_simp
     refine wT 2 (.agg #[v0,.slice (some (aD qb qo)) nw q.wcap,v2,v3,v4,v5,v6,v7,v8,v9,v10,v11,v12]) hS (fun x hx=>?_) ?_
     ·have e0:=cB hx f1_0;have e1:=cB hx f1_1;have e2:=cB hx f1_2;have e3:=cB hx f1_3;have e4:=cB hx f1_4;have e5:=cB hx f1_5;have e6:=cB hx f1_6;have e7:=cB hx f1_7;have e8:=cB hx f1_8;have e9:=cB hx f1_9;have e10:=cB hx f1_10;have e11:=cB hx f1_11;have e12:=cB hx f1_12;go_simp
     refine wT 3 (.int .i64 EL) hS (fun x hx=>?_) ?_
     ·go_simp
     refine wR 4 fun K hK=>?_
     go_simp;refine hK.out _ _ (hS.trans (bQ2 _ _ |>.mono hS.size)) (fun hS=>?_);clear hK K;refine wR 5 fun K hK=>?_
     go_simp;refine Calls.mono (HSL.out _ w6.heap.size (bQ1 HB6.out hS) (by simp)) ?_;rintro e wy ⟨rfl,hby⟩;refine hK.out _ _ (hS.trans (hby.mono hS.size)) (fun hS=>?_);clear hK K;refine wR 6 fun K hK=>?_
     go_simp;refine Calls.mono (HAL.out _) ?_;rintro e wz ⟨rfl,rfl⟩;refine hK.out _ _ (hS) (fun hS=>?_);clear hK K;refine wR 7 fun K hK=>?_
     go_simp;refine hK.out _ _ hS (fun hS=>?_);clear hK K;refine wV 8 hS ?_;refine wV 9 hS ?_;refine wV 10 hS ?_;refine wV 11 hS ?_;refine wV 12 hS ?_;refine wV 13 hS ?_;refine wV 14 hS ?_;refine wR 15 fun K hK=>?_
     go_simp;refine hK.out _ _ hS (fun hS=>?_);clear hK K;refine wR 16 fun K hK=>?_
     go_simp;refine hK.out _ _ hS (fun hS=>?_);clear hK K;refine wpAnyH_done (by kernel_rfl) ?_ _
     try simp only[pA,sB,sC]
     go_wp2_with fail;go_meet;exact⟨rfl,hS⟩
   case rest=>
   obtain⟨rfl,hb7⟩:=hcut
   cases hAB:(AL&&BR) with
   | true =>
    rw[hAB,if_pos rfl] at HK2;obtain rfl:=HK2.out;have HB7:Hid _:=bQ1 HC6.out hb7;clear hb7 HK2;go_wp2;go_ret3;exact⟨rfl,HB7.out⟩
   | false =>
   rw[hAB,if_neg (by simp)] at HK2;have HB7:Hid (Below w5.heap.size w5 wc):=bQ1 HB6.out hb7;have HC7:Hid _:=bQ1 HC6.out hb7;have j3_1:=cB hb7 f3_1;have j4_1:=cB hb7 f4_1;have j1_0:=cB hb7 f1_0;have j1_1:=cB hb7 f1_1;have j1_2:=cB hb7 f1_2;have j1_3:=cB hb7 f1_3;have j1_4:=cB hb7 f1_4;have j1_5:=cB hb7 f1_5;have j1_6:=cB hb7 f1_6;have j1_7:=cB hb7 f1_7;have j1_8:=cB hb7 f1_8;have j1_9:=cB hb7 f1_9;have j1_10:=cB hb7 f1_10;have j1_11:=cB hb7 f1_11;have j1_12:=cB hb7 f1_12;clear hb7 hAB HB6 HC6 f3_1 f4_1 f1_0 f1_1 f1_2 f1_3 f1_4 f1_5 f1_6 f1_7 f1_8 f1_9 f1_10 f1_11 f1_12;go_upto_region 8 with fail;go_cut [67] from 68 to 83 (fun c wy=>c=.bool (AR&&BL)/\Below wc.heap.size wc wy)
   case first=>
    cases AR with
    | true =>
     refine wp_region_held_drew (S:=fun x=>Below wc.heap.size wc x) (by kernel_rfl) ((Below.refl _ _).drew) (fun hS=>?_);refine wT 0 (.pointer (some (aD w2.heap.size 1))) hS (fun x hx=>?_) ?_
     ·go_simp
     refine wT 1 (.int .u64 (a:Int)) hS (fun x hx=>?_) ?_
     ·have e0:=cB hx j3_1;go_simp
     refine wT 2 (.agg #[v0,.slice (some (aD qb qo)) nw q.wcap,v2,v3,v4,v5,v6,v7,v8,v9,v10,v11,v12]) hS (fun x hx=>?_) ?_
     ·have e0:=cB hx j1_0;have e1:=cB hx j1_1;have e2:=cB hx j1_2;have e3:=cB hx j1_3;have e4:=cB hx j1_4;have e5:=cB hx j1_5;have e6:=cB hx j1_6;have e7:=cB hx j1_7;have e8:=cB hx j1_8;have e9:=cB hx j1_9;have e10:=cB hx j1_10;have e11:=cB hx j1_11;have e12:=cB hx j1_12;go_simp
     refine wT 3 (.int .i64 ER) hS (fun x hx=>?_) ?_
     ·go_simp
     refine wR 4 fun K hK=>?_
     go_simp;refine hK.out _ _ (hS.trans (bQ2 _ _ |>.mono hS.size)) (fun hS=>?_);clear hK K;refine wR 5 fun K hK=>?_
     go_simp;refine Calls.mono (HSR.out _ wc.heap.size (bQ1 HB7.out hS) (by simp)) ?_;rintro e wy ⟨rfl,hby⟩;refine hK.out _ _ (hS.trans (hby.mono hS.size)) (fun hS=>?_);clear hK K;refine wR 6 fun K hK=>?_
     go_simp;refine Calls.mono (HAR.out _) ?_;rintro e wz ⟨rfl,rfl⟩;refine hK.out _ _ (hS) (fun hS=>?_);clear hK K;refine wR 7 fun K hK=>?_
     go_simp;refine hK.out _ _ hS (fun hS=>?_);clear hK K;refine wT 8 (.pointer (some (aD w3.heap.size 1))) hS (fun x hx=>?_) ?_
     ·go_simp
     refine wT 9 (.int .u64 (b:Int)) hS (fun x hx=>?_) ?_
     ·have e0:=cB hx j4_1;go_simp
     refine wT 10 (.agg #[v0,.slice (some (aD qb qo)) nw q.wcap,v2,v3,v4,v5,v6,v7,v8,v9,v10,v11,v12]) hS (fun x hx=>?_) ?_
     ·have e0:=cB hx j1_0;have e1:=cB hx j1_1;have e2:=cB hx j1_2;have e3:=cB hx j1_3;have e4:=cB hx j1_4;have e5:=cB hx j1_5;have e6:=cB hx j1_6;have e7:=cB hx j1_7;have e8:=cB hx j1_8;have e9:=cB hx j1_9;have e10:=cB hx j1_10;have e11:=cB hx j1_11;have e12:=cB hx j1_12;go_simp
     refine wT 11 (.int .i64 EL) hS (fun x hx=>?_) ?_
     ·go_simp
     refine wR 12 fun K hK=>?_
     go_simp;refine hK.out _ _ (hS.trans (bQ2 _ _ |>.mono hS.size)) (fun hS=>?_);clear hK K;refine wR 13 fun K hK=>?_
     go_simp;refine Calls.mono (HSL.out _ wz.heap.size (bQ1 HB7.out hS) (by simp)) ?_;rintro e wu ⟨rfl,hbu⟩;refine hK.out _ _ (hS.trans (hbu.mono hS.size)) (fun hS=>?_);clear hK K;refine wR 14 fun K hK=>?_
     go_simp;refine Calls.mono (HBL.out _) ?_;rintro e wv ⟨rfl,rfl⟩;refine hK.out _ _ (hS) (fun hS=>?_);clear hK K;refine wR 15 fun K hK=>?_
     go_simp;refine hK.out _ _ hS (fun hS=>?_);clear hK K;refine wR 16 fun K hK=>?_
     go_simp;refine hK.out _ _ hS (fun hS=>?_);clear hK K;refine wpAnyH_done (by kernel_rfl) ?_ _
     try simp only[pA,sB,sC]
     go_wp2_with fail;go_meet;exact⟨rfl,hS⟩
    | false =>
     refine wp_region_held_drew (S:=fun x=>Below wc.heap.size wc x) (by kernel_rfl) ((Below.refl _ _).drew) (fun hS=>?_);refine wT 0 (.pointer (some (aD w2.heap.size 1))) hS (fun x hx=>?_) ?_
     ·go_simp
     refine wT 1 (.int .u64 (a:Int)) hS (fun x hx=>?_) ?_
     ·have e0:=cB hx j3_1;go_simp
     refine wT 2 (.agg #[v0,.slice (some (aD qb qo)) nw q.wcap,v2,v3,v4,v5,v6,v7,v8,v9,v10,v11,v12]) hS (fun x hx=>?_) ?_
     ·have e0:=cB hx j1_0;have e1:=cB hx j1_1;have e2:=cB hx j1_2;have e3:=cB hx j1_3;have e4:=cB hx j1_4;have e5:=cB hx j1_5;have e6:=cB hx j1_6;have e7:=cB hx j1_7;have e8:=cB hx j1_8;have e9:=cB hx j1_9;have e10:=cB hx j1_10;have e11:=cB hx j1_11;have e12:=cB hx j1_12;go_simp
     refine wT 3 (.int .i64 ER) hS (fun x hx=>?_) ?_
     ·go_simp
     refine wR 4 fun K hK=>?_
     go_simp;refine hK.out _ _ (hS.trans (bQ2 _ _ |>.mono hS.size)) (fun hS=>?_);clear hK K;refine wR 5 fun K hK=>?_
     go_simp;refine Calls.mono (HSR.out _ wc.heap.size (bQ1 HB7.out hS) (by simp)) ?_;rintro e wy ⟨rfl,hby⟩;refine hK.out _ _ (hS.trans (hby.mono hS.size)) (fun hS=>?_);clear hK K;refine wR 6 fun K hK=>?_
     go_simp;refine Calls.mono (HAR.out _) ?_;rintro e wz ⟨rfl,rfl⟩;refine hK.out _ _ (hS) (fun hS=>?_);clear hK K;refine wR 7 fun K hK=>?_
     go_simp;refine hK.out _ _ hS (fun hS=>?_);clear hK K;refine wV 8 hS ?_;refine wV 9 hS ?_;refine wV 10 hS ?_;refine wV 11 hS ?_;refine wV 12 hS ?_;refine wV 13 hS ?_;refine wV 14 hS ?_;refine wR 15 fun K hK=>?_
     go_simp;refine hK.out _ _ hS (fun hS=>?_);clear hK K;refine wR 16 fun K hK=>?_
     go_simp;refine hK.out _ _ hS (fun hS=>?_);clear hK K;refine wpAnyH_done (by kernel_rfl) ?_ _
     try simp only[pA,sB,sC]
     go_wp2_with fail;go_meet;exact⟨rfl,hS⟩
   case rest=>
   obtain⟨rfl,hb8⟩:=hcut;have HC8:Hid _:=bQ1 HC7.out hb8
   cases hAB:(AR&&BL) with
   | true =>
    rw[hAB,if_pos rfl] at HK2;obtain rfl:=HK2.out;clear hb8 HK2;go_wp2;go_ret3;exact⟨rfl,HC8.out⟩
   | false =>
    rw[hAB,if_neg (by simp)] at HK2;obtain rfl:=HK2.out;clear hb8 HK2;go_wp2;go_ret3;exact⟨rfl,HC8.out⟩
 ·rw[decide_eq_false hin] at hCT;obtain rfl:KV=(0,0,false):=by rw[HKE.out,if_neg (fun h=>hin h.1)]
  clear HKE HSO HCA HCB HWH HEO HP;go_enter Tryz.func133,Tryz.ntmps133;go_wp2_with fail;refine Calls.mono hCT ?_;clear hCT;rintro e w5 ⟨rfl,rfl⟩;go_wp2;go_ret3;exact⟨rfl,HC.out⟩
end Go.Proofs.YtlpbelhfpoilpabGreatDoor
