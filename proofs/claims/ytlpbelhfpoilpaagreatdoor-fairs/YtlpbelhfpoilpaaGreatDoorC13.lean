import Derived.Deep.RegionHeld3
import Derived.Test.YtlpbelhfpoilpaaGreatDoorC11
import Derived.Test.YtlpbelhfpoilpaaGreatDoorC12
set_option linter.all false
set_option maxRecDepth 100000
set_option maxHeartbeats 16000000
namespace Go.Scout
open Go.RowKit
theorem factsCells (f:FactsV) (ts:List TableD) (q:QueryV):∃ v0 v1 v2 v3 v4 v5 v6 v7 v8 v9 v10 v11 v12,f.cells ts q=#[v0,v1,v2,v3,v4,v5,v6,v7,v8,v9,v10,v11,v12]/\v0=q.src.val/\v1=.slice q.wad q.wh.length q.wcap/\v2=.bool q.group/\v3=q.keys.val/\v4=q.sums.val/\v5=q.sel.val/\v6=q.ord.val/\
  v7=.slice f.ca (colsN ts q).length f.cc/\v8=.int .u64 ((2 ^ q.src.xs.length-1:Nat):Int)/\v9=.int .u64 ((2 ^ q.wh.length-1:Nat):Int)/\v10=.slice f.ra q.src.xs.length f.rc/\v11=.slice f.na f.nl f.nc/\v12=.slice f.pa f.pl f.pc:=
 ⟨_,_,_,_,_,_,_,_,_,_,_,_,_,rfl,rfl,rfl,rfl,rfl,rfl,rfl,rfl,rfl,rfl,rfl,rfl,rfl,rfl⟩
end Go.Scout
namespace Go.Proofs.YtlpbelhfpoilpaaGreatDoor
open Go.RowKit Go.Scout
theorem isWhole_any (f:FactsV) (ts:List TableD) (q:QueryV) (p:PartV) (w:World) :
  Calls Tryz.prog 226 #[.agg (f.cells ts q),.agg p.cells] w fun e w'=>e=.returned (.bool (wholeP q p.d))/\Below w.heap.size w w':=by
 obtain⟨w1,hw1⟩:∃ x,w.alloc (.cells (f.cells ts q) 105)=x:=⟨_,rfl⟩
 have hk1:Below w.heap.size w w1:=by rw[<- hw1]; exact bQ2 _ _
 have hg1:GB w1 w.heap.size 105 (f.cells ts q):=by rw[<- hw1]; exact bQ3 _ _
 obtain⟨w2,hw2⟩:∃ x,w1.alloc (.cells p.cells 110)=x:=⟨_,rfl⟩
 have hk2:Below w1.heap.size w1 w2:=by rw[<- hw2]; exact bQ2 _ _
 have hg2:GB w2 w1.heap.size 110 p.cells:=by rw[<- hw2]; exact bQ3 _ _
 have hc1:=hk2;have hc0:Below w.heap.size w w2:=bQ1 hk1 hc1;have gg1:GB w2 w.heap.size 105 (f.cells ts q):=hg1.of (hc1.block _ hg1.lt);have g1_8:w2.cell? (aD w.heap.size 8)=some (.int .u64 ((2 ^ q.src.xs.length-1:Nat):Int)):=gg1.cell 8;have g1_9:w2.cell? (aD w.heap.size 9)=some (.int .u64 ((2 ^ q.wh.length-1:Nat):Int)):=gg1.cell 9;have gg2:=hg2;have g2_1:w2.cell? (aD w1.heap.size 1)=some (.int .u64 (p.sources:Int)):=gg2.cell 1;have g2_2:w2.cell? (aD w1.heap.size 2)=some (.int .u64 (p.clauses:Int)):=gg2.cell 2;have HV:Hid (wholeP q p.d=(decide (p.sources=2 ^ q.src.xs.length-1)&&decide (p.clauses=2 ^ q.wh.length-1))):=rfl;have HC:Hid _:=hc0;generalize wholeP q p.d=B at *;generalize f.cells ts q=FC at *;generalize p.cells=PC at *;generalize 2 ^ q.src.xs.length-1=s at *;generalize 2 ^ q.wh.length-1=c at *;generalize p.sources=a at *;generalize p.clauses=b at *;clear hc0 hc1 hk1 hk2 hg1 hg2 gg1 gg2;by_cases h1:a=s
 ·subst h1;have HV2:Hid (B=((b:Int)==(c:Int))):=by
   show _=_
   rw[HV.out,decide_eq_true rfl,Bool.true_and,Bool.eq_iff_iff,decide_eq_true_eq,beq_iff_eq];omega
  go_enter Tryz.func226,Tryz.ntmps226;go_wp2;go_ret;exact⟨ret_bool HV2.out.symm,HC.out⟩
 ·have HV2:Hid (B=false):=by show _=_; rw[HV.out,decide_eq_false h1,Bool.false_and]
  have h1':((a:Int)==(s:Int))=false:=by rw[beq_eq_false_iff_ne]; omega
  clear h1;go_enter Tryz.func226,Tryz.ntmps226;go_wp2;go_ret;exact⟨ret_bool HV2.out.symm,HC.out⟩
theorem joinFits_any (f:FactsV) (ts:List TableD) (q:QueryV) (n:NodeV) (l r:PartV) (w:World) (ok:Ok ts q) (hf:f.At ts q w) (hn:n.cl.At w) (hl:l.sources<=topN) (hr:r.sources<=topN) :
  Calls Tryz.prog 222 #[.agg (f.cells ts q),.agg n.cells,.agg l.cells,.agg r.cells] w fun e w'=>e=.returned (.bool (joinP ts q n l.sources r.sources))/\Below w.heap.size w w':=by
 obtain⟨v0,v1,v2,v3,v4,v5,v6,v7,v8,v9,v10,v11,v12,hFC,-⟩:=factsCells f ts q;obtain⟨w1,hw1⟩:∃ x,w.alloc (.cells (f.cells ts q) 105)=x:=⟨_,rfl⟩
 have hk1:Below w.heap.size w w1:=by rw[<- hw1]; exact bQ2 _ _
 have hg1:GB w1 w.heap.size 105 (f.cells ts q):=by rw[<- hw1]; exact bQ3 _ _
 obtain⟨w2,hw2⟩:∃ x,w1.alloc (.cells n.cells 58)=x:=⟨_,rfl⟩
 have hk2:Below w1.heap.size w1 w2:=by rw[<- hw2]; exact bQ2 _ _
 have hg2:GB w2 w1.heap.size 58 n.cells:=by rw[<- hw2]; exact bQ3 _ _
 obtain⟨w3,hw3⟩:∃ x,w2.alloc (.cells l.cells 110)=x:=⟨_,rfl⟩
 have hk3:Below w2.heap.size w2 w3:=by rw[<- hw3]; exact bQ2 _ _
 have hg3:GB w3 w2.heap.size 110 l.cells:=by rw[<- hw3]; exact bQ3 _ _
 obtain⟨w4,hw4⟩:∃ x,w3.alloc (.cells r.cells 110)=x:=⟨_,rfl⟩
 have hk4:Below w3.heap.size w3 w4:=by rw[<- hw4]; exact bQ2 _ _
 have hg4:GB w4 w3.heap.size 110 r.cells:=by rw[<- hw4]; exact bQ3 _ _
 have hc3:=hk4;have hc2:Below w2.heap.size w2 w4:=bQ1 hk3 hc3;have hc1:Below w1.heap.size w1 w4:=bQ1 hk2 hc2;have hc0:Below w.heap.size w w4:=bQ1 hk1 hc1;have gg1:GB w4 w.heap.size 105 (f.cells ts q):=hg1.of (hc1.block _ hg1.lt);have gg2:GB w4 w1.heap.size 58 n.cells:=hg2.of (hc2.block _ hg2.lt);have g2_4:w4.cell? (aD w1.heap.size 4)=some (n.cl.val):=gg2.cell 4;have gg3:GB w4 w2.heap.size 110 l.cells:=hg3.of (hc3.block _ hg3.lt);have g3_1:w4.cell? (aD w2.heap.size 1)=some (.int .u64 (l.sources:Int)):=gg3.cell 1;have gg4:=hg4;have g4_1:w4.cell? (aD w3.heap.size 1)=some (.int .u64 (r.sources:Int)):=gg4.cell 1;have g1_0:w4.cell? (aD w.heap.size 0)=some v0:=by rw[hFC] at gg1; exact gg1.cell 0
 have g1_1:w4.cell? (aD w.heap.size 1)=some v1:=by rw[hFC] at gg1; exact gg1.cell 1
 have g1_2:w4.cell? (aD w.heap.size 2)=some v2:=by rw[hFC] at gg1; exact gg1.cell 2
 have g1_3:w4.cell? (aD w.heap.size 3)=some v3:=by rw[hFC] at gg1; exact gg1.cell 3
 have g1_4:w4.cell? (aD w.heap.size 4)=some v4:=by rw[hFC] at gg1; exact gg1.cell 4
 have g1_5:w4.cell? (aD w.heap.size 5)=some v5:=by rw[hFC] at gg1; exact gg1.cell 5
 have g1_6:w4.cell? (aD w.heap.size 6)=some v6:=by rw[hFC] at gg1; exact gg1.cell 6
 have g1_7:w4.cell? (aD w.heap.size 7)=some v7:=by rw[hFC] at gg1; exact gg1.cell 7
 have g1_8:w4.cell? (aD w.heap.size 8)=some v8:=by rw[hFC] at gg1; exact gg1.cell 8
 have g1_9:w4.cell? (aD w.heap.size 9)=some v9:=by rw[hFC] at gg1; exact gg1.cell 9
 have g1_10:w4.cell? (aD w.heap.size 10)=some v10:=by rw[hFC] at gg1; exact gg1.cell 10
 have g1_11:w4.cell? (aD w.heap.size 11)=some v11:=by rw[hFC] at gg1; exact gg1.cell 11
 have g1_12:w4.cell? (aD w.heap.size 12)=some v12:=by rw[hFC] at gg1; exact gg1.cell 12
 have HCF:Hid (∀ x,Below w4.heap.size w4 x->∀ s:Nat,s<18446744073709551616->Calls Tryz.prog 221 #[.agg (f.cells ts q),.slice n.cl.ad n.cl.xs.length n.cl.cap,.int .u64 (s:Int)] x fun e w'=>e=.returned (.bool (risesB ts q n.cl.xs s))/\Below x.heap.size x w'):=fun x hb s hs=>
  clausesFit_any f ts q n.cl.ad n.cl.cap n.cl.xs s x ok (hf.below (bQ1 hc0 hb)) (IntsAt.below (bQ1 hc0 hb) hn) hs
 have HV:Hid (joinP ts q n l.sources r.sources=(decide (l.sources &&& r.sources=0)&&risesB ts q n.cl.xs (l.sources|||r.sources))):=rfl;have hla:l.sources<18446744073709551616:=by unfold topN at hl; omega
 have hra:r.sources<18446744073709551616:=by unfold topN at hr; omega
 have hME:=meets_any l.sources r.sources hla hra w4;have HUN:Hid (∀ (x:World) (b:Nat),_->_->_):=fun x b h0 h1=>union_two b l.sources r.sources x h0 h1 hla hra
 have hor:l.sources|||r.sources<18446744073709551616:=Nat.or_lt_two_pow (n:=64) hla hra
 have HOR:Hid _:=hor;have HC:Hid _:=hc0;rw[hFC] at HCF hw1 ⊢;obtain⟨nk,nl,nr,ns,⟨na,nc,nx⟩,ny,no⟩:=n;unfold IntsV.val at *;simp only at *;generalize joinP ts q _ l.sources r.sources=J at *;generalize risesB ts q nx=RB at *;generalize NodeV.cells _=NC at *;generalize l.cells=LC at *;generalize r.cells=RC at *;generalize l.sources=a at *;generalize r.sources=b at *;clear hc0 hc1 hc2 hc3 hk1 hk2 hk3 hk4 hg1 hg2 hg3 hg4 gg1 gg2 gg3 gg4 hf ok hn hl hr hla hra hor hFC;by_cases hm:a &&& b=0
 ·have hmd:decide (a &&& b≠0)=false:=decide_eq_false (fun h=>h hm);have HV2:Hid (J=RB (a|||b)):=by show _=_; rw[HV.out,decide_eq_true hm,Bool.true_and]
  rw[hmd] at hME;clear hmd hm HV;go_enter Tryz.func222,Tryz.ntmps222;go_wp2_with fail;refine hME.mono ?_;clear hME;rintro e w5 ⟨rfl,rfl⟩;go_wp2;refine wp_region_held_drew (S:=fun x=>Below w5.heap.size w5 x) (by kernel_rfl) ((Below.refl _ _).drew) (fun hS=>?_);refine wpAnyH_take (i:=0) (v:=.agg #[v0,v1,v2,v3,v4,v5,v6,v7,v8,v9,v10,v11,v12]) rfl (by kernel_rfl) (by kernel_rfl) (by kernel_rfl) (fun _ _ _ h=>h) (.inl ⟨by rfl,fun x hx=>?_⟩) hS ?_
  ·have e0:=cB hx g1_0;have e1:=cB hx g1_1;have e2:=cB hx g1_2;have e3:=cB hx g1_3;have e4:=cB hx g1_4;have e5:=cB hx g1_5;have e6:=cB hx g1_6;have e7:=cB hx g1_7;have e8:=cB hx g1_8;have e9:=cB hx g1_9;have e10:=cB hx g1_10;have e11:=cB hx g1_11;have e12:=cB hx g1_12;go_simp
  refine wpAnyH_take (i:=1) (v:=.pointer (some (aD w1.heap.size 4))) rfl (by kernel_rfl) (by kernel_rfl) (by kernel_rfl) (fun _ _ _ h=>h) (.inl ⟨by rfl,fun x hx=>?_⟩) hS ?_
  ·go_simp
  refine wpAnyH_take (i:=2) (v:=.slice na nx.length nc) rfl (by kernel_rfl) (by kernel_rfl) (by kernel_rfl) (fun _ _ _ h=>h) (.inl ⟨by rfl,fun x hx=>?_⟩) hS ?_
  ·have e0:=cB hx g2_4;go_simp
  refine wpAnyH_take (i:=3) (v:=.pointer (some (aD w2.heap.size 1))) rfl (by kernel_rfl) (by kernel_rfl) (by kernel_rfl) (fun _ _ _ h=>h) (.inl ⟨by rfl,fun x hx=>?_⟩) hS ?_
  ·go_simp
  refine wpAnyH_take (i:=4) (v:=.int .u64 (a:Int)) rfl (by kernel_rfl) (by kernel_rfl) (by kernel_rfl) (fun _ _ _ h=>h) (.inl ⟨by rfl,fun x hx=>?_⟩) hS ?_
  ·have e0:=cB hx g3_1;go_simp
  refine wpAnyH_take (i:=5) (v:=.pointer (some (aD w3.heap.size 1))) rfl (by kernel_rfl) (by kernel_rfl) (by kernel_rfl) (fun _ _ _ h=>h) (.inl ⟨by rfl,fun x hx=>?_⟩) hS ?_
  ·go_simp
  refine wpAnyH_take (i:=6) (v:=.int .u64 (b:Int)) rfl (by kernel_rfl) (by kernel_rfl) (by kernel_rfl) (fun _ _ _ h=>h) (.inl ⟨by rfl,fun x hx=>?_⟩) hS ?_
  ·have e0:=cB hx g4_1;go_simp
  refine wpAnyH_ready (rs:=[7]) (by kernel_rfl) (by simp) ?_;refine AllReadyH.cons rfl (fun K hK=>?_) AllReadyH.nil;go_simp;refine hK.out _ _ (hS.trans (bQ2 _ _ |>.mono hS.size)) (fun hS=>?_);clear hK K;refine wpAnyH_ready (rs:=[8]) (by kernel_rfl) (by simp) ?_;refine AllReadyH.cons rfl (fun K hK=>?_) AllReadyH.nil;go_simp;refine Calls.mono (HUN.out _ w5.heap.size (by simp) (by simp)) ?_;rintro e w6 ⟨rfl,rfl⟩;refine hK.out _ _ (hS) (fun hS=>?_);clear hK K;refine wpAnyH_ready (rs:=[9]) (by kernel_rfl) (by simp) ?_;refine AllReadyH.cons rfl (fun K hK=>?_) AllReadyH.nil;go_simp;refine Calls.mono (HCF.out _ hS (a|||b) HOR.out) ?_;rintro e w7 ⟨rfl,hb7⟩;refine hK.out _ _ (hS.trans (hb7.mono hS.size)) (fun hS=>?_);clear hK K;refine wpAnyH_ready (rs:=[10]) (by kernel_rfl) (by simp) ?_;refine AllReadyH.cons rfl (fun K hK=>?_) AllReadyH.nil;go_simp;refine hK.out _ _ hS (fun hS=>?_);clear hK K;refine wpAnyH_done (by kernel_rfl) ?_ _
  try simp only[pA,sB,sC]
  have HB7:Hid _:=bQ1 HC.out hS;clear hS hb7;go_wp2;go_ret;exact⟨ret_bool HV2.out.symm,HB7.out⟩
 ·have hmd:decide (a &&& b≠0)=true:=decide_eq_true hm;have HV2:Hid (J=false):=by show _=_; rw[HV.out,decide_eq_false hm,Bool.false_and]
  rw[hmd] at hME;clear hmd hm HV HCF;go_enter Tryz.func222,Tryz.ntmps222;go_wp2_with fail;refine hME.mono ?_;clear hME;rintro e w5 ⟨rfl,rfl⟩;go_wp2;go_ret;exact⟨ret_bool HV2.out.symm,HC.out⟩
end Go.Proofs.YtlpbelhfpoilpaaGreatDoor
namespace Go.Scout
open Go.RowKit
theorem all_take_succ {xs:List Int} {p:Int->Bool} {k:Nat} (hk:k<xs.length) (h:(xs.take k).all p=true) (hp:p (xs.getD k 0)=true):(xs.take (k+1)).all p=true:=by
 have e:xs.getD k 0=xs[k]:=by simp[List.getD,hk]
 rw[e] at hp;rw[List.take_succ_eq_append_getElem hk,List.all_append,h,List.all_cons,hp];rfl
theorem all_bad_at {xs:List Int} {p:Int->Bool} {k:Nat} (hk:k<xs.length) (hp:p (xs.getD k 0)=false):xs.all p=false:=by
 have e:xs.getD k 0=xs[k]:=by simp[List.getD,hk]
 rw[List.all_eq_false];exact⟨xs[k],List.getElem_mem hk,by rw[<- e,hp]; simp⟩
theorem getD_mem {xs:List Int} {k:Nat} (hk:k<xs.length):xs.getD k 0∈xs:=by
 have e:xs.getD k 0=xs[k]:=by simp[List.getD,hk]
 rw[e]; exact List.getElem_mem hk
end Go.Scout
namespace Go.Proofs.YtlpbelhfpoilpaaGreatDoor
open Go.RowKit Go.Scout
theorem within_any (ao so:Option Addr) (cap scap':Nat) (ts:List TableD) (q:QueryV) (k:Nat) (ss:List Int) (w:World) (hx:TablesAt w ao ts) (hc:catB ts=true) (hq:q.At w) (h5:q.src.xs.length<=5) (ha:allB q.src.xs ts.length=true) (hk:k<q.wh.length)
  (hcol:∀ c∈columnsN (q.wh.getD k lz).cs,0<=c/\c<widthN ts q.src.xs) (h3:(q.wh.getD k lz).cs.length<=3) (hss:IntsAt w so ss) :
  Calls Tryz.prog 160 #[.slice ao ts.length cap,.agg q.cells,.int .i64 k,.slice so ss.length scap'] w fun e w'=>e=.returned (.bool (withinB ts q.src.xs (q.wh.getD k lz).cs ss))/\Below w.heap.size w w':=by
 have HSO:Hid (∀ c∈columnsN (q.wh.getD k lz).cs,∀ x,Below w.heap.size w x->Calls Tryz.prog 162 #[.slice ao ts.length cap,.agg q.cells,.int .i64 c] x fun e w'=>e=.returned (.int .i64 (sourceN ts q.src.xs c:Nat))/\Below x.heap.size x w'):=fun c hm x hb=>
  source_any ao cap ts q c x (hx.below hb) hc (IntsAt.below hb hq.src) h5 ha (hcol c hm).1 (hcol c hm).2
 have hwl:=hq.wh.1;have hsl:=hss.1;obtain⟨wb,wo,hwad,hwc⟩:=CellsAt.get hq.wh.2.1 hk;have hck:=hwc k hk;have hcs:=hq.wh.2.2 k hk;clear hwc hq hcol hc ha hx;obtain⟨w1,hw1⟩:∃ x,x=w.alloc (.cells q.cells 26):=⟨_,rfl⟩
 have hk1:Below w.heap.size w w1:=by rw[hw1]; exact bQ2 _ _
 have hbox:GB w1 w.heap.size 26 q.cells:=by rw[hw1]; exact bQ3 _ _
 obtain⟨⟨sad,scap,xs⟩,wad,wcap,wh,group,⟨kad,kcap,kxs⟩,⟨uad,ucap,uxs⟩,⟨lad,lcap,lxs⟩,⟨oad,ocap,oxs⟩⟩:=q;unfold QueryV.cells IntsV.val at *;simp only at *;subst hwad;generalize wh.getD k lz=cl at *;obtain⟨ca,cc,cs⟩:=cl;unfold ClauseV.val at hck;simp only at hck hcs HSO h3 ⊢;have q0:w1.cell? (aD w.heap.size 0)=some (.slice sad xs.length scap):=hbox.cell 0;have q1:w1.cell? (aD w.heap.size 1)=some (.slice (some (aD wb wo)) wh.length wcap):=hbox.cell 1;have q2:w1.cell? (aD w.heap.size 2)=some (.bool group):=hbox.cell 2;have q3:w1.cell? (aD w.heap.size 3)=some (.slice kad kxs.length kcap):=hbox.cell 3;have q4:w1.cell? (aD w.heap.size 4)=some (.slice uad uxs.length ucap):=hbox.cell 4;have q5:w1.cell? (aD w.heap.size 5)=some (.slice lad lxs.length lcap):=hbox.cell 5;have q6:w1.cell? (aD w.heap.size 6)=some (.slice oad oxs.length ocap):=hbox.cell 6;have hWC:w.alloc (.cells #[.slice sad xs.length scap,.slice (some (aD wb wo)) wh.length wcap,.bool group,.slice kad kxs.length kcap,.slice uad uxs.length ucap,.slice lad lxs.length lcap,.slice oad oxs.length ocap] 26)=w1:=hw1.symm;have hck1:=cB hk1 hck;have hCO:=columns_any ca cc cs w1 (hcs.below hk1) (by omega);have HSS:Hid _:=hss;have HW:Hid (withinB ts xs cs ss=(columnsN cs).all fun c=>decide ((sourceN ts xs c:Int)∈ss)):=rfl;have HLE:=columnsN_len cs;clear hw1 hbox hck hcs hss;go_enter Tryz.func160,Tryz.ntmps160;go_wp2_with fail;refine hCO.mono ?_;clear hCO hWC;rintro e w2 ⟨v,rfl,hov,hb2⟩;obtain⟨la,lc,rfl,hIL⟩:=ints_own hov (by omega);have HIL:Hid _:=hIL;clear hov hIL hck1;obtain⟨L,hL⟩:∃ L,L=columnsN cs:=⟨_,rfl⟩
 rw[<- hL] at HSO HIL HW HLE ⊢;clear hL;have k2:=bQ1 hk1 hb2;have q0':=cB hb2 q0;have q1':=cB hb2 q1;have q2':=cB hb2 q2;have q3':=cB hb2 q3;have q4':=cB hb2 q4;have q5':=cB hb2 q5;have q6':=cB hb2 q6;clear q0 q1 q2 q3 q4 q5 q6 hb2 hk1;go_wp2;go_loopw [10] (fun iv wr=>∃ i:Nat,i<=L.length/\iv=.int .i64 i/\Hid (((L.take i).all fun c=>decide ((sourceN ts xs c:Int)∈ss))=true)/\Below w2.heap.size w2 wr) (fun iv _=>L.length-(intOf iv).toNat)
 case atStart=>exact⟨0,Nat.zero_le _,rfl,rfl,Below.refl _ _⟩
 case round=>
  obtain⟨i,hi,rfl,HA,hbr⟩:=hrel;by_cases hlt:i<L.length
  ·have hLl:=HIL.out.1;obtain⟨lb,lo,rfl,hcl⟩:=IntsAt.get HIL.out hlt;have hci:=cB hbr (hcl i hlt);clear hcl;have HC:=HSO.out (L.getD i 0) (getD_mem hlt);have HC2:Hid _:=HC;clear HC;have kr:=bQ1 k2 hbr;have HT:Hid _:=all_take_succ (p:=fun c=>decide ((sourceN ts xs c:Int)∈ss)) hlt HA.out;have HF:Hid _:=all_bad_at (p:=fun c=>decide ((sourceN ts xs c:Int)∈ss)) hlt;clear HA;generalize L.getD i 0=c at *;obtain⟨S,hS⟩:∃ S,S=sourceN ts xs c:=⟨_,rfl⟩
   simp only[<- hS] at HC2 HT HF;clear hS;go_wp2;refine wp_region_below (by kernel_rfl) (by kernel_rfl) ?_;go_big_quiet_want;refine⟨.slice ao ts.length cap,fun x hx=>?_,?_⟩
   ·go_simp
   simp only[pA,sB,sC];go_big_quiet_on;go_big_quiet_want;refine⟨.agg #[.slice sad xs.length scap,.slice (some (aD wb wo)) wh.length wcap,.bool group,.slice kad kxs.length kcap,.slice uad uxs.length ucap,.slice lad lxs.length lcap,.slice oad oxs.length ocap],fun x hx=>?_,?_⟩
   ·have e0:=cB (bQ1 hbr hx) q0';have e1:=cB (bQ1 hbr hx) q1';have e2:=cB (bQ1 hbr hx) q2';have e3:=cB (bQ1 hbr hx) q3';have e4:=cB (bQ1 hbr hx) q4';have e5:=cB (bQ1 hbr hx) q5';have e6:=cB (bQ1 hbr hx) q6';go_simp
   simp only[pA,sB,sC];go_big_quiet_on;go_big_quiet_want;refine⟨.slice (some (aD lb lo)) L.length lc,fun x hx=>?_,?_⟩
   ·go_simp
   simp only[pA,sB,sC];go_big_quiet_on;go_big_quiet_want;refine⟨.int .i64 i,fun x hx=>?_,?_⟩
   ·go_simp
   simp only[pA,sB,sC];go_big_quiet_on;go_big_quiet_want;refine⟨.pointer (some (aD lb (lo+i))),fun x hx=>?_,?_⟩
   ·go_simp
   simp only[pA,sB,sC];go_big_quiet_on;go_big_quiet_want;refine⟨.int .i64 c,fun x hx=>?_,?_⟩
   ·have e0:=cB hx hci;go_simp
   simp only[pA,sB,sC];go_big_quiet_on;go_big_quiet_want;refine⟨.int .i64 S,fun x hx=>?_,?_⟩
   ·have hC:=Calls.within hx (HC2.out x (bQ1 kr hx));go_simp
   simp only[pA,sB,sC];go_big_quiet_on;go_big_quiet_want;refine⟨.int .i64 S,fun x hx=>?_,?_⟩
   ·go_simp
   simp only[pA,sB,sC];go_big_quiet_on;refine wpQuiet_nil ?_;intro w3 hb3;have kb3:=bQ1 hbr hb3;have k3:=bQ1 kr hb3;clear hb3 HC2 hci;have hHA:=has_any so scap' ss (S:Int) w3 (IntsAt.below k3 HSS.out);go_wp2_with fail;refine hHA.mono ?_;clear hHA;rintro e w4 ⟨rfl,rfl⟩;by_cases hin:(S:Int)∈ss
   ·rw[decide_eq_true hin];go_wp2;go_roundw
    case rel=>exact⟨i+1,by omega,by go_num,HT.out (decide_eq_true hin),kb3⟩
    case measure=>simp[intOf]; omega
   ·rw[decide_eq_false hin];go_wp2;go_ret;exact⟨ret_bool (by rw[HW.out]; exact (HF.out (decide_eq_false hin)).symm),k3⟩
  ·have e:i=L.length:=by omega
   have HA2:=HA.out;rw[e,List.take_length] at HA2;have HA3:Hid _:=HA2;have kr:=bQ1 k2 hbr;clear HA HA2 e;go_wp2;go_ret;exact⟨ret_bool (by rw[HW.out]; exact HA3.out.symm),kr⟩
end Go.Proofs.YtlpbelhfpoilpaaGreatDoor
namespace Go.Scout
open Go.RowKit
theorem rows_nat {ts:List TableD} (hc:catB ts=true) {i:Nat} (hi:i<ts.length):0<=(ts.getD i tz).rows/\(ts.getD i tz).rows<=1000000:=by
 have ht:=table_of hc hi;unfold tableB at ht;rw[decide_eq_true_eq] at ht;exact⟨ht.2.2.1,ht.2.2.2.1⟩
theorem rows_cell {w:World} {ao:Option Addr} {ts:List TableD} (h:TablesAt w ao ts) {i:Nat} (hi:i<ts.length):∃ b off,ao=some (aD b off)/\w.cell? (aD b (off+i*6+1))=some (.int .i64 (ts.getD i tz).rows):=by
 obtain⟨b,off,e,_,h1,_⟩:=h.2 i hi;exact⟨b,off,e,h1⟩
theorem rows_at {w:World} {ao sad:Option Addr} {ts:List TableD} {xs:List Int} (hx:TablesAt w ao ts) (hs:IntsAt w sad xs) (hc:catB ts=true) (ha:allB xs ts.length=true) {s:Int} (h0:0<=s) (h1:s<xs.length) :
  ∃ (sb so tb to' sn tn R:Nat),sad=some (aD sb so)/\ao=some (aD tb to')/\s=(sn:Int)/\w.cell? (aD sb (so+sn))=some (.int .i64 (tn:Int))/\w.cell? (aD tb (to'+tn*6+1))=some (.int .i64 (R:Int))/\rowsN ts xs s=R/\sn<xs.length/\tn<ts.length/\R<=1000000:=by
 have hl:s.toNat<xs.length:=by omega
 obtain⟨sb,so,e1,hcs⟩:=hs.get hl;have hat:=allB_at ha hl;have hgd:xs.getD s.toNat 0=xs[s.toNat]:=by simp[List.getD,hl]
 have hcl:=hcs _ hl;rw[hgd] at hcl;obtain⟨tb,to',e2,hct⟩:=rows_cell hx (i:=(xs[s.toNat]).toNat) (by omega);have hr:=rows_nat hc (i:=(xs[s.toNat]).toNat) (by omega);refine⟨sb,so,tb,to',s.toNat,(xs[s.toNat]).toNat,(ts.getD (xs[s.toNat]).toNat tz).rows.toNat,e1,e2,by omega,?_,?_,?_,hl,by omega,by omega⟩
 ·rw[hcl]; congr 2; omega
 ·rw[hct]; congr 2; omega
 ·unfold rowsN; rw[hgd]
theorem foldl_take_succ {β:Type} {f:β->Nat->β} {xs:List Int} {g:Int->Nat} {k:Nat} (hk:k<xs.length) (b:β):((xs.take (k+1)).map g).foldl f b=f (((xs.take k).map g).foldl f b) (g (xs.getD k 0)):=by
 have e:xs.getD k 0=xs[k]:=by simp[List.getD,hk]
 rw[List.take_succ_eq_append_getElem hk,e,List.map_append,List.foldl_append];rfl
theorem timesN_fold_le:∀ (l:List Nat) (m:Nat),m<=topN->l.foldl timesN m<=topN
 | [],_,h => h
 | a::l,m,_ => timesN_fold_le l _ (timesN_le m a)
def lessTo (ts:List TableD) (q:QueryV) (clauses:List Int) (k n:Nat):Nat:=(List.range k).foldl (fun (n c:Nat)=>if (c:Int)∈clauses then n / partsN ts q.src.xs (q.wh.getD c lz).cs else n) n
theorem lessTo_succ (ts:List TableD) (q:QueryV) (clauses:List Int) (k n:Nat):lessTo ts q clauses (k+1) n=if (k:Int)∈clauses then lessTo ts q clauses k n / partsN ts q.src.xs (q.wh.getD k lz).cs else lessTo ts q clauses k n:=by
 unfold lessTo;rw[List.range_succ,List.foldl_append];rfl
theorem lessTo_le (ts:List TableD) (q:QueryV) (clauses:List Int) (n:Nat):∀ k,lessTo ts q clauses k n<=n
 | 0 => Nat.le_refl _
 | k+1 => by
  rw[lessTo_succ];have:=lessTo_le ts q clauses n k;split
  ·exact Nat.le_trans (Nat.div_le_self _ _) this
  ·exact this
theorem parts_bd {ts:List TableD} {src:List Int} (hc:catB ts=true) (ha:allB src ts.length=true) {cs:List CondD} (hcol:∀ c∈columnsN cs,0<=c/\c<widthN ts src):1<=partsN ts src cs/\partsN ts src cs<=1000000:=by
 unfold partsN;split
 ·omega
 rename_i h1
 split
 ·omega
 split
 ·omega
 rename_i o2
 have h0:cs.length=1:=by
  by_cases e:cs.length=1
  ·exact e
  ·exact absurd (.inl e) h1
 have hm:∀ x∈condCols (cs.getD 0 cz),x∈columnsN cs:=by
  match cs,h0 with
  | [c],_ => intro x hx; simpa [columnsN] using hx
 have hl:=hcol (cs.getD 0 cz).left (hm _ (by unfold condCols; split <;> simp));have bl:=kinds_bd hc ha hl.1 hl.2;split
 ·omega
 ·rename_i hcn
  have hr:=hcol (cs.getD 0 cz).right (hm _ (by unfold condCols; rw[if_pos ⟨o2,by simpa using hcn⟩]; simp));have br:=kinds_bd hc ha hr.1 hr.2;omega
end Go.Scout
namespace Go.Proofs.YtlpbelhfpoilpaaGreatDoor
open Go.RowKit Go.Scout
theorem size_any (ao so' co:Option Addr) (cap scap' ccap:Nat) (ts:List TableD) (q:QueryV) (ss cl:List Int) (w:World) (hx:TablesAt w ao ts) (hc:catB ts=true) (hq:q.At w) (h5:q.src.xs.length<=5) (ha:allB q.src.xs ts.length=true) (h8:q.wh.length<=8)
  (hcol:ClausesOk ts q) (hss:IntsAt w so' ss) (hsm:SmallL q.src.xs.length ss) (hcl:IntsAt w co cl) :
  Calls Tryz.prog 94 #[.slice ao ts.length cap,.agg q.cells,.slice so' ss.length scap',.slice co cl.length ccap] w fun e w'=>e=.returned (.int .u64 (sizeN ts q ss cl:Nat))/\Below w.heap.size w w':=by
 have HPA:Hid (∀ k:Nat,k<q.wh.length->(∀ x,Below w.heap.size w x->Calls Tryz.prog 157 #[.slice ao ts.length cap,.agg q.cells,.int .i64 k] x fun e w'=>e=.returned (.int .u64 (partsN ts q.src.xs (q.wh.getD k lz).cs:Nat))/\Below x.heap.size x w')/\1<=partsN ts q.src.xs (q.wh.getD k lz).cs/\partsN ts q.src.xs (q.wh.getD k lz).cs<=1000000):=fun k hk=>
  ⟨fun x hb=>parts_any ao cap ts q k x (hx.below hb) hc (hq.below hb) h5 ha hk (hcol k hk),parts_bd hc ha (hcol k hk)⟩
 have HR:Hid (∀ i,i<ss.length->∃ (sb so tb to' sn tn R:Nat),q.src.ad=some (aD sb so)/\ao=some (aD tb to')/\ss.getD i 0=(sn:Int)/\w.cell? (aD sb (so+sn))=some (.int .i64 (tn:Int))/\w.cell? (aD tb (to'+tn*6+1))=some (.int .i64 (R:Int))/\rowsN ts q.src.xs (ss.getD i 0)=R/\sn<q.src.xs.length/\tn<ts.length/\R<=1000000):=fun i hi=>by
  have:=hsm _ (getD_mem hi);exact rows_at hx hq.src hc ha this.1 this.2
 have HSZ:Hid (sizeN ts q ss cl=if (ss.any fun s=>decide (rowsN ts q.src.xs s=0))=true then 0 else max (lessTo ts q cl q.wh.length ((ss.map (rowsN ts q.src.xs)).foldl timesN 1)) 1):=rfl;have hsl:=hss.1;have htl:=hx.1;have HLS:Hid (∀ k n,lessTo ts q cl (k+1) n=if (k:Int)∈cl then lessTo ts q cl k n / partsN ts q.src.xs (q.wh.getD k lz).cs else lessTo ts q cl k n):=fun k n=>lessTo_succ ts q cl k n
 have HLL:Hid (∀ k n,lessTo ts q cl k n<=n):=fun k n=>lessTo_le ts q cl n k
 have HL0:Hid (∀ n,lessTo ts q cl 0 n=n):=fun n=>rfl
 generalize lessTo ts q cl=lt at *;obtain⟨pn,hpn⟩:∃ pn:Nat->Nat,∀ k,pn k=partsN ts q.src.xs (q.wh.getD k lz).cs:=⟨_,fun _=>rfl⟩
 simp only[<- hpn] at HPA HLS;clear hpn;obtain⟨rn,hrn⟩:∃ rn,rn=rowsN ts q.src.xs:=⟨_,rfl⟩
 rw[<- hrn] at HR HSZ;clear hrn;obtain⟨Z,hZ⟩:∃ Z,Z=sizeN ts q ss cl:=⟨_,rfl⟩
 rw[<- hZ] at HSZ ⊢;clear hZ;have HCL:Hid _:=hcl;have HSS:Hid _:=hss;clear hcol hc ha hx hq hsm hcl hss;obtain⟨w1,hw1⟩:∃ x,x=w.alloc (.cells q.cells 26):=⟨_,rfl⟩
 have hk1:Below w.heap.size w w1:=by rw[hw1]; exact bQ2 _ _
 have hbox:GB w1 w.heap.size 26 q.cells:=by rw[hw1]; exact bQ3 _ _
 obtain⟨⟨sad,scap,xs⟩,wad,wcap,wh,group,⟨kad,kcap,kxs⟩,⟨uad,ucap,uxs⟩,⟨lad,lcap,lxs⟩,⟨oad,ocap,oxs⟩⟩:=q;unfold QueryV.cells IntsV.val at *;simp only at *;have q0:w1.cell? (aD w.heap.size 0)=some (.slice sad xs.length scap):=hbox.cell 0;have q1:w1.cell? (aD w.heap.size 1)=some (.slice wad wh.length wcap):=hbox.cell 1;have q2:w1.cell? (aD w.heap.size 2)=some (.bool group):=hbox.cell 2;have q3:w1.cell? (aD w.heap.size 3)=some (.slice kad kxs.length kcap):=hbox.cell 3;have q4:w1.cell? (aD w.heap.size 4)=some (.slice uad uxs.length ucap):=hbox.cell 4;have q5:w1.cell? (aD w.heap.size 5)=some (.slice lad lxs.length lcap):=hbox.cell 5;have q6:w1.cell? (aD w.heap.size 6)=some (.slice oad oxs.length ocap):=hbox.cell 6;have hWC:w.alloc (.cells #[.slice sad xs.length scap,.slice wad wh.length wcap,.bool group,.slice kad kxs.length kcap,.slice uad uxs.length ucap,.slice lad lxs.length lcap,.slice oad oxs.length ocap] 26)=w1:=hw1.symm;have HK1:Hid (Below w.heap.size w w1):=hk1;clear hw1 hbox;go_enter Tryz.func94,Tryz.ntmps94;go_wp2;clear hWC;go_loopw [10] (fun iv wr=>∃ i:Nat,i<=ss.length/\iv=.int .i64 i/\Hid (((ss.take i).all fun s=>decide (rn s≠0))=true)/\Below w1.heap.size w1 wr) (fun iv _=>ss.length-(intOf iv).toNat)
 case atStart=>exact⟨0,Nat.zero_le _,rfl,rfl,Below.refl _ _⟩
 case round=>
  obtain⟨i,hi,rfl,HA,hbr⟩:=hrel;by_cases hlt:i<ss.length
  ·obtain⟨sb,so,tb,to',sn,tn,R,rfl,rfl,hsn,c1,c2,hRR,b1,b2,b3⟩:=HR.out i hlt;obtain⟨ib,io,rfl,hic⟩:=IntsAt.get HSS.out hlt;have kr:=bQ1 HK1.out hbr;have hci:=cB kr (hic i hlt);rw[hsn] at hci;have d1:=cB kr c1;have d2:=cB kr c2;have HT:Hid _:=all_take_succ (p:=fun s=>decide (rn s≠0)) hlt HA.out;rw[hRR] at HT;have HB:Hid (R=0->Z=0):=fun e=>by
    rw[HSZ.out,if_pos];rw[List.any_eq_true];exact⟨_,getD_mem hlt,by rw[hRR,e]; rfl⟩
   have q0':=cB hbr q0;clear hsn c1 c2 hRR hic HA;by_cases hR0:R=0
   ·subst hR0;go_wp2;go_quiet (fail);go_wp2;go_ret;exact⟨ret_u64 (a:=0) (HB.out (by trivial)).symm,below_drewN (bQ1 HK1.out hbr) _⟩
   ·have hRb:((R:Int)==0)=false:=by simp; omega
    go_wp2;go_quiet (fail);go_wp2;go_roundw
    case rel=>exact⟨i+1,by omega,by go_num,HT.out (decide_eq_true hR0),below_drewN hbr _⟩
    case measure=>simp[intOf]; omega
  ·have e:i=ss.length:=by omega
   have HA2:=HA.out;rw[e,List.take_length] at HA2;have HA3:Hid (Z=max (lt wh.length ((ss.map rn).foldl timesN 1)) 1):=by
    show _=_
    rw[HSZ.out,if_neg];intro h;rw[List.any_eq_true] at h;obtain⟨s,hs,h1⟩:=h;have:=List.all_eq_true.1 HA2 s hs;exact of_decide_eq_true this (of_decide_eq_true h1)
   clear HA HA2 e HSZ;go_wp2;clear hi hlt;go_loopw [9,11] (fun nv iv wr=>∃ i:Nat,i<=ss.length/\iv=.int .i64 i/\nv=.int .u64 (((ss.take i).map rn).foldl timesN 1:Nat)/\Below w1.heap.size w1 wr) (fun _ iv _=>ss.length-(intOf iv).toNat)
   case atStart=>exact⟨0,Nat.zero_le _,rfl,rfl,hbr⟩
   case round=>
    clear hbr;obtain⟨i,hi,rfl,rfl,hbr⟩:=hrel;have hle:((ss.take i).map rn).foldl timesN 1<=topN:=timesN_fold_le _ _ (by unfold topN; omega);by_cases hlt:i<ss.length
    ·obtain⟨sb,so,tb,to',sn,tn,R,rfl,rfl,hsn,c1,c2,hRR,b1,b2,b3⟩:=HR.out i hlt;obtain⟨ib,io,rfl,hic⟩:=IntsAt.get HSS.out hlt;have kr:=bQ1 HK1.out hbr;have hci:=cB kr (hic i hlt);rw[hsn] at hci;have d1:=cB kr c1;have d2:=cB kr c2;have HT:=foldl_take_succ (f:=timesN) (g:=rn) hlt 1;rw[hRR] at HT;have HT2:Hid _:=HT;have q0':=cB hbr q0;clear hsn c1 c2 hRR hic HT;generalize ((ss.take i).map rn).foldl timesN 1=n at *;have HTI:Hid (∀ x,Calls Tryz.prog 156 #[.int .u64 n,.int .u64 R] x fun e w'=>e=.returned (.int .u64 (timesN n R:Nat))/\Below x.heap.size x w'):=fun x=>(times_any n R hle (by unfold topN; omega) x).mono (fun _ _ h=>⟨h.1,by rw[h.2]; exact Below.refl _ _⟩)
     have hwR:IntKind.u64.wrap (R:Int)=R:=by rw[IntKind.wrap_u64]; omega
     clear hle;go_wp2;refine wp_region_below (by kernel_rfl) (by kernel_rfl) ?_;go_big_quiet_want;refine⟨.int .u64 n,fun x hx=>?_,?_⟩
     ·go_simp
     simp only[pA,sB,sC];go_big_quiet_on;go_big_quiet_want;refine⟨.slice (some (aD tb to')) ts.length cap,fun x hx=>?_,?_⟩
     ·go_simp
     simp only[pA,sB,sC];go_big_quiet_on;go_big_quiet_want;refine⟨.pointer (some (aD w.heap.size 0)),fun x hx=>?_,?_⟩
     ·go_simp
     simp only[pA,sB,sC];go_big_quiet_on;go_big_quiet_want;refine⟨.slice (some (aD sb so)) xs.length scap,fun x hx=>?_,?_⟩
     ·have e0:=cB hx q0';go_simp
     simp only[pA,sB,sC];go_big_quiet_on;go_big_quiet_want;refine⟨.slice (some (aD ib io)) ss.length scap',fun x hx=>?_,?_⟩
     ·go_simp
     simp only[pA,sB,sC];go_big_quiet_on;go_big_quiet_want;refine⟨.int .i64 i,fun x hx=>?_,?_⟩
     ·go_simp
     simp only[pA,sB,sC];go_big_quiet_on;go_big_quiet_want;refine⟨.pointer (some (aD ib (io+i))),fun x hx=>?_,?_⟩
     ·go_simp
     simp only[pA,sB,sC];go_big_quiet_on;go_big_quiet_want;refine⟨.int .i64 sn,fun x hx=>?_,?_⟩
     ·have e0:=cB hx hci;go_simp
     simp only[pA,sB,sC];go_big_quiet_on;go_big_quiet_want;refine⟨.pointer (some (aD sb (so+sn))),fun x hx=>?_,?_⟩
     ·go_simp
     simp only[pA,sB,sC];go_big_quiet_on;go_big_quiet_want;refine⟨.int .i64 tn,fun x hx=>?_,?_⟩
     ·have e0:=cB hx d1;go_simp
     simp only[pA,sB,sC];go_big_quiet_on;go_big_quiet_want;refine⟨.pointer (some (aD tb (to'+tn*6))),fun x hx=>?_,?_⟩
     ·go_simp
     simp only[pA,sB,sC];go_big_quiet_on;go_big_quiet_want;refine⟨.pointer (some (aD tb (to'+tn*6+1))),fun x hx=>?_,?_⟩
     ·go_simp
     simp only[pA,sB,sC];go_big_quiet_on;go_big_quiet_want;refine⟨.int .i64 R,fun x hx=>?_,?_⟩
     ·have e0:=cB hx d2;go_simp
     simp only[pA,sB,sC];go_big_quiet_on;go_big_quiet_want;refine⟨.int .u64 R,fun x hx=>?_,?_⟩
     ·go_simp
     simp only[pA,sB,sC];go_big_quiet_on;go_big_quiet_want;refine⟨.int .u64 (timesN n R:Nat),fun x hx=>?_,?_⟩
     ·have hC:=Calls.within hx (HTI.out x);go_simp
     simp only[pA,sB,sC];go_big_quiet_on;go_big_quiet_want;refine⟨.int .u64 (timesN n R:Nat),fun x hx=>?_,?_⟩
     ·go_simp
     simp only[pA,sB,sC];go_big_quiet_on;refine wpQuiet_nil ?_;intro w3 hb3;have kb3:=bQ1 hbr hb3;clear hb3;go_wp2;go_roundw
     case rel=>exact⟨i+1,by omega,by go_num,by rw[HT2.out],kb3⟩
     case measure=>simp[intOf]; omega
    ·have e:i=ss.length:=by omega
     rw[e,List.take_length] at hle ⊢;clear e hlt hi;generalize (ss.map rn).foldl timesN 1=N at *;unfold topN at hle;have hq1:=cB hbr q1;have hH0:=HL0.out N;go_wp2;clear hq1;go_loopw [9,12] (fun nv iv wr=>∃ i:Nat,i<=wh.length/\iv=.int .i64 i/\nv=.int .u64 (lt i N:Nat)/\Below w1.heap.size w1 wr) (fun _ iv _=>wh.length-(intOf iv).toNat)
     case atStart=>exact⟨0,Nat.zero_le _,rfl,by rw[hH0],hbr⟩
     case round=>
      clear hbr hH0;obtain⟨i,hi,rfl,rfl,hbr⟩:=hrel;have hq1:=cB hbr q1;have hlN:=HLL.out i N;by_cases hlt:i<wh.length
      ·have HPi:=HPA.out i hlt;have hPc:=HPi.1;have hPb:=HPi.2;have HP1:Hid _:=hPc;have hst:=HLS.out i N;clear HPi hPc;generalize pn i=p at *;generalize lt i N=n at *;have kr:=bQ1 HK1.out hbr;have hHA:=has_any co ccap cl (i:Int) wr (IntsAt.below kr HCL.out);go_wp2_with fail;refine hHA.mono ?_;clear hHA;rintro e w2 ⟨rfl,rfl⟩;by_cases hin:(i:Int)∈cl
       ·rw[decide_eq_true hin];rw[if_pos hin] at hst;have HST:Hid _:=hst;clear hst;have q0':=cB hbr q0;have q2':=cB hbr q2;have q3':=cB hbr q3;have q4':=cB hbr q4;have q5':=cB hbr q5;have q6':=cB hbr q6;go_wp2_with fail;refine (show Calls _ _ _ _ _ from HP1.out w2 kr).mono ?_;rintro e w3 ⟨rfl,hb3⟩;have kb3:=bQ1 hbr hb3;clear q0' q2' q3' q4' q5' q6' hq1 hb3 HP1;have hp0:¬ p=0:=by omega
        have hq':((n:Int)).tdiv (p:Int)=((n / p:Nat):Int):=by
         rw[Int.tdiv_eq_ediv_of_nonneg (by omega),Int.natCast_ediv]
        have hnp:n / p<=18446744073709551615:=by have:=Nat.div_le_self n p; omega
        have hwn:IntKind.u64.wrap ((n / p:Nat):Int)=((n / p:Nat):Int):=wrap_u64_nat hnp;generalize n / p=m at *;go_wp2;go_roundw
        case rel=>exact⟨i+1,by omega,by go_num,by rw[HST.out],kb3⟩
        case measure=>simp[intOf]; omega
       ·rw[decide_eq_false hin];rw[if_neg hin] at hst;have HST:Hid _:=hst;clear hst HP1;go_wp2;go_roundw
        case rel=>exact⟨i+1,by omega,by go_num,by rw[HST.out],hbr⟩
        case measure=>simp[intOf]; omega
      ·have e:i=wh.length:=by omega
       have HZ:Hid (Z=max (lt i N) 1):=by
        show _=_
        rw[HA3.out,e]
       clear e HA3;generalize lt i N=n at *;have kr:=bQ1 HK1.out hbr;by_cases hn0:n=0
       ·subst hn0;go_wp2;go_ret;exact⟨ret_u64 (a:=1) (by rw[HZ.out]; rfl),kr⟩
       ·have hnb:((n:Int)==0)=false:=by simp; omega
        go_wp2;go_ret;exact⟨ret_u64 (by rw[HZ.out]; omega),kr⟩
end Go.Proofs.YtlpbelhfpoilpaaGreatDoor
namespace Go.Scout
open Go.RowKit
theorem concern_take (ts:List TableD) (q:QueryV) {cs:List CondD} {k:Nat} (hk:k<cs.length):setN (srcL ts q (columnsN (cs.take (k+1))))=setN (srcL ts q (columnsN (cs.take k)))|||setN (srcL ts q (condCols (cs.getD k cz))):=by
 rw[columnsN_snoc hk];unfold srcL;rw[List.map_append,setN_append]
theorem columns_take {cs:List CondD} {k:Nat} {c:Int} (h:c∈columnsN (cs.take k)):c∈columnsN cs:=by
 obtain⟨x,hx,hc⟩:=List.mem_flatMap.1 h;exact List.mem_flatMap.2 ⟨x,List.mem_of_mem_take hx,hc⟩
end Go.Scout
namespace Go.Proofs.YtlpbelhfpoilpaaGreatDoor
open Go.RowKit Go.Scout
theorem concerns_any (f:FactsV) (ts:List TableD) (q:QueryV) (ca:Option Addr) (cc:Nat) (cs:List CondD) (w:World) (ok:Ok ts q) (hf:ColsAt w f.ca (colsN ts q)) (hx:CondsAt w ca cs) (hcol:ColOk ts q (columnsN cs)) :
  Calls Tryz.prog 146 #[.agg (f.cells ts q),.agg #[.slice ca cs.length cc]] w fun e w'=>e=.returned (.int .u64 ((setN (concernN ts q.src.xs cs):Nat):Int))/\Below w.heap.size w w':=by
 obtain⟨v0,v1,v2,v3,v4,v5,v6,v7,v8,v9,v10,v11,v12,hFC,-⟩:=factsCells f ts q;obtain⟨w1,hw1⟩:∃ x,w.alloc (.cells (f.cells ts q) 105)=x:=⟨_,rfl⟩
 have hk1:Below w.heap.size w w1:=by rw[<- hw1]; exact bQ2 _ _
 have hg1:GB w1 w.heap.size 105 (f.cells ts q):=by rw[<- hw1]; exact bQ3 _ _
 obtain⟨w2,hw2⟩:∃ x,w1.alloc (.cells #[.slice ca cs.length cc] 140)=x:=⟨_,rfl⟩
 have hk2:Below w1.heap.size w1 w2:=by rw[<- hw2]; exact bQ2 _ _
 have hg2:GB w2 w1.heap.size 140 #[.slice ca cs.length cc]:=by rw[<- hw2]; exact bQ3 _ _
 have hc1:=hk2;have hc0:Below w.heap.size w w2:=bQ1 hk1 hc1;have gg1:GB w2 w.heap.size 105 (f.cells ts q):=hg1.of (hc1.block _ hg1.lt);have gg2:=hg2;have g2_0:w2.cell? (aD w1.heap.size 0)=some (.slice ca cs.length cc):=gg2.cell 0;have g1_0:w2.cell? (aD w.heap.size 0)=some v0:=by rw[hFC] at gg1; exact gg1.cell 0
 have g1_1:w2.cell? (aD w.heap.size 1)=some v1:=by rw[hFC] at gg1; exact gg1.cell 1
 have g1_2:w2.cell? (aD w.heap.size 2)=some v2:=by rw[hFC] at gg1; exact gg1.cell 2
 have g1_3:w2.cell? (aD w.heap.size 3)=some v3:=by rw[hFC] at gg1; exact gg1.cell 3
 have g1_4:w2.cell? (aD w.heap.size 4)=some v4:=by rw[hFC] at gg1; exact gg1.cell 4
 have g1_5:w2.cell? (aD w.heap.size 5)=some v5:=by rw[hFC] at gg1; exact gg1.cell 5
 have g1_6:w2.cell? (aD w.heap.size 6)=some v6:=by rw[hFC] at gg1; exact gg1.cell 6
 have g1_7:w2.cell? (aD w.heap.size 7)=some v7:=by rw[hFC] at gg1; exact gg1.cell 7
 have g1_8:w2.cell? (aD w.heap.size 8)=some v8:=by rw[hFC] at gg1; exact gg1.cell 8
 have g1_9:w2.cell? (aD w.heap.size 9)=some v9:=by rw[hFC] at gg1; exact gg1.cell 9
 have g1_10:w2.cell? (aD w.heap.size 10)=some v10:=by rw[hFC] at gg1; exact gg1.cell 10
 have g1_11:w2.cell? (aD w.heap.size 11)=some v11:=by rw[hFC] at gg1; exact gg1.cell 11
 have g1_12:w2.cell? (aD w.heap.size 12)=some v12:=by rw[hFC] at gg1; exact gg1.cell 12
 have HCX:Hid (∀ k,k<cs.length->∃ b off,ca=some (aD b off)/\w2.cell? (aD b (off+k*5))=some (.bool (cs.getD k cz).not)/\w2.cell? (aD b (off+k*5+1))=some (.int .i64 (cs.getD k cz).op)/\w2.cell? (aD b (off+k*5+2))=some (.int .i64 (cs.getD k cz).left)/\w2.cell? (aD b (off+k*5+3))=some (.bool (cs.getD k cz).const)/\w2.cell? (aD b (off+k*5+4))=some (.int .i64 (cs.getD k cz).right)):=(hx.below hc0).2;have HSO:Hid (∀ x xa xc k,k<cs.length->Below w2.heap.size w2 x->IntsAt x xa (condCols (cs.getD k cz))->Calls Tryz.prog 218 #[.agg (f.cells ts q),.slice xa (condCols (cs.getD k cz)).length xc] x fun e w'=>e=.returned (.int .u64 ((setN (srcL ts q (condCols (cs.getD k cz))):Nat):Int))/\Below x.heap.size x w'):=
  fun x xa xc k hk hb h=>sourcesOf_any f ts q xa xc _ x ok (hf.below (bQ1 hc0 hb)) h (fun c hc=>hcol c (List.mem_flatMap.2 ⟨_,getD_memR hk,hc⟩))
 have HCC:Hid (∀ x c,_):=fun x c=>condColumns_any c x
 have HST:Hid (∀ k,k<cs.length->setN (srcL ts q (columnsN (cs.take (k+1))))=setN (srcL ts q (columnsN (cs.take k)))|||setN (srcL ts q (condCols (cs.getD k cz)))):=fun k hk=>concern_take ts q hk
 have HSL:Hid (∀ k,setN (srcL ts q (columnsN (cs.take k)))<18446744073709551616):=fun k=>(srcL_small ok (fun c hc=>hcol c (columns_take hc))).lt ok.small
 have HS1:Hid (∀ k,k<cs.length->setN (srcL ts q (condCols (cs.getD k cz)))<18446744073709551616):=fun k hk=>(srcL_small ok (fun c hc=>hcol c (List.mem_flatMap.2 ⟨_,getD_memR hk,hc⟩))).lt ok.small
 have HSE:Hid (setN (srcL ts q (columnsN (cs.take cs.length)))=setN (concernN ts q.src.xs cs)):=by show _=_; rw[List.take_length]; rfl
 have HS0:Hid (setN (srcL ts q (columnsN (cs.take 0)))=0):=rfl;have hcl:=hx.1;have HC:Hid _:=hc0;obtain⟨ST,hST⟩:∃ ST:Nat->Nat,ST=fun k=>setN (srcL ts q (columnsN (cs.take k))):=⟨_,rfl⟩
 obtain⟨SK,hSK⟩:∃ SK:CondD->Nat,SK=fun c=>setN (srcL ts q (condCols c)):=⟨_,rfl⟩
 have HST':Hid (∀ k,k<cs.length->ST (k+1)=ST k|||SK (cs.getD k cz)):=by rw[hST,hSK]; exact HST.out
 have HSL':Hid (∀ k,ST k<18446744073709551616):=by rw[hST]; exact HSL.out
 have HS1':Hid (∀ k,k<cs.length->SK (cs.getD k cz)<18446744073709551616):=by rw[hSK]; exact HS1.out
 have HSE':Hid (ST cs.length=setN (concernN ts q.src.xs cs)):=by rw[hST]; exact HSE.out
 have HS0':Hid (ST 0=0):=by rw[hST]; exact HS0.out
 have HSO':Hid (∀ x xa xc k,k<cs.length->Below w2.heap.size w2 x->IntsAt x xa (condCols (cs.getD k cz))->Calls Tryz.prog 218 #[.agg #[v0,v1,v2,v3,v4,v5,v6,v7,v8,v9,v10,v11,v12],.slice xa (condCols (cs.getD k cz)).length xc] x fun e w'=>e=.returned (.int .u64 ((SK (cs.getD k cz):Nat):Int))/\Below x.heap.size x w'):=by rw[hSK,<- hFC]; exact HSO.out
 rw[hFC] at hw1 ⊢;generalize setN (concernN ts q.src.xs cs)=R at *;clear hST hSK HST HSL HS1 HSE HS0 HSO hFC hg1 hg2 gg1 gg2 hk1 hk2 hc0 hc1 hf hx hcol ok;go_enter Tryz.func146,Tryz.ntmps146;go_wp2;clear hw1 hw2;go_loopw [5,11] (fun sv iv wr=>∃ k:Nat,k<=cs.length/\iv=.int .i64 k/\(∃ s:Nat,sv=.int .u64 (s:Int)/\Hid (s=ST k))/\Below w2.heap.size w2 wr) (fun _ iv _=>cs.length-(intOf iv).toNat)
 case atStart=>exact⟨0,Nat.zero_le _,rfl,⟨0,rfl,HS0'.out.symm⟩,Below.refl _ _⟩
 case round=>
  obtain⟨k,hk,rfl,⟨s,rfl,hs⟩,hbr⟩:=hrel;by_cases hlt:k<cs.length
  ·obtain⟨cb,co,rfl,c0,c1,c2,c3,c4⟩:=HCX.out k hlt;have d0:=cB hbr c0;have d1:=cB hbr c1;have d2:=cB hbr c2;have d3:=cB hbr c3;have d4:=cB hbr c4;have HT:Hid _:=HST'.out k hlt;have hsl:s<18446744073709551616:=by rw[hs.out]; exact HSL'.out k
   have hs1:=HS1'.out k hlt;have HSOk:Hid (∀ x xa xc,_->_->_):=fun x xa xc hb h=>HSO'.out x xa xc k hlt hb h
   rw[<- hs.out] at HT;clear c0 c1 c2 c3 c4 hs;generalize cs.getD k cz=c at *;have hCC:=fun x=>HCC.out x c
   generalize SK c=m at *;generalize condCols c=CC at *;obtain⟨wb,hwb⟩:∃ x,wr.alloc (.cells #[.bool c.not,.int .i64 c.op,.int .i64 c.left,.bool c.const,.int .i64 c.right] 137)=x:=⟨_,rfl⟩
   have hkb:Below wr.heap.size wr wb:=by rw[<- hwb]; exact bQ2 _ _
   have hgb:GB wb wr.heap.size 137 #[.bool c.not,.int .i64 c.op,.int .i64 c.left,.bool c.const,.int .i64 c.right]:=by rw[<- hwb]; exact bQ3 _ _
   have b0:wb.cell? (aD wr.heap.size 0)=some (.bool c.not):=hgb.cell 0;have b1:wb.cell? (aD wr.heap.size 1)=some (.int .i64 c.op):=hgb.cell 1;have b2:wb.cell? (aD wr.heap.size 2)=some (.int .i64 c.left):=hgb.cell 2;have b3:wb.cell? (aD wr.heap.size 3)=some (.bool c.const):=hgb.cell 3;have b4:wb.cell? (aD wr.heap.size 4)=some (.int .i64 c.right):=hgb.cell 4;have hbw:=bQ1 hbr hkb;have j0:=cB hbw g1_0;have j1:=cB hbw g1_1;have j2:=cB hbw g1_2;have j3:=cB hbw g1_3;have j4:=cB hbw g1_4;have j5:=cB hbw g1_5;have j6:=cB hbw g1_6;have j7:=cB hbw g1_7;have j8:=cB hbw g1_8;have j9:=cB hbw g1_9;have j10:=cB hbw g1_10;have j11:=cB hbw g1_11;have j12:=cB hbw g1_12;have HBW:Hid _:=hbw;clear hgb hkb hbr hbw;obtain⟨cnot,cop,cleft,cconst,cright⟩:=c;unfold CondD.val at *;simp only at *;go_wp2;clear hwb;refine wp_region_held_drew (S:=fun x=>Below wb.heap.size wb x) (by kernel_rfl) ((Below.refl _ _).drew) (fun hS=>?_);refine wpAnyH_take (i:=0) (v:=.int .u64 (s:Int)) rfl (by kernel_rfl) (by kernel_rfl) (by kernel_rfl) (fun _ _ _ h=>h) (.inl ⟨by rfl,fun x hx=>?_⟩) hS ?_
   ·go_simp
   refine wpAnyH_take (i:=1) (v:=.agg #[v0,v1,v2,v3,v4,v5,v6,v7,v8,v9,v10,v11,v12]) rfl (by kernel_rfl) (by kernel_rfl) (by kernel_rfl) (fun _ _ _ h=>h) (.inl ⟨by rfl,fun x hx=>?_⟩) hS ?_
   ·have e0:=cB hx j0;have e1:=cB hx j1;have e2:=cB hx j2;have e3:=cB hx j3;have e4:=cB hx j4;have e5:=cB hx j5;have e6:=cB hx j6;have e7:=cB hx j7;have e8:=cB hx j8;have e9:=cB hx j9;have e10:=cB hx j10;have e11:=cB hx j11;have e12:=cB hx j12;go_simp
   refine wpAnyH_take (i:=2) (v:=.agg #[.bool cnot,.int .i64 cop,.int .i64 cleft,.bool cconst,.int .i64 cright]) rfl (by kernel_rfl) (by kernel_rfl) (by kernel_rfl) (fun _ _ _ h=>h) (.inl ⟨by rfl,fun x hx=>?_⟩) hS ?_
   ·have e0:=cB hx b0;have e1:=cB hx b1;have e2:=cB hx b2;have e3:=cB hx b3;have e4:=cB hx b4;go_simp
   refine wpAnyH_ready (rs:=[3]) (by kernel_rfl) (by simp) ?_;refine AllReadyH.cons rfl (fun K hK=>?_) AllReadyH.nil;go_simp;refine Calls.mono (hCC _) ?_;rintro e w3 ⟨b,rfl,hcc,hb3⟩;refine hK.out _ _ (hS.trans (hb3.mono hS.size)) (fun hS=>?_);clear hK K;refine wpAnyH_ready (rs:=[4]) (by kernel_rfl) (by simp) ?_;refine AllReadyH.cons rfl (fun K hK=>?_) AllReadyH.nil;go_simp;refine Calls.mono (HSOk.out _ _ _ (bQ1 HBW.out hS) hcc) ?_;rintro e w4 ⟨rfl,hb4⟩;refine hK.out _ _ (hS.trans (hb4.mono hS.size)) (fun hS=>?_);clear hK K;refine wpAnyH_ready (rs:=[5]) (by kernel_rfl) (by simp) ?_;refine AllReadyH.cons rfl (fun K hK=>?_) AllReadyH.nil;go_simp;refine hK.out _ _ (hS.trans (bQ2 _ _ |>.mono hS.size)) (fun hS=>?_);clear hK K;refine wpAnyH_ready (rs:=[6]) (by kernel_rfl) (by simp) ?_;refine AllReadyH.cons rfl (fun K hK=>?_) AllReadyH.nil;go_simp;refine Calls.mono (union_two w4.heap.size s m _ (by simp) (by simp) hsl hs1) ?_;rintro e w5 ⟨rfl,rfl⟩;refine hK.out _ _ (hS) (fun hS=>?_);clear hK K;refine wpAnyH_ready (rs:=[7]) (by kernel_rfl) (by simp) ?_;refine AllReadyH.cons rfl (fun K hK=>?_) AllReadyH.nil;go_simp;refine hK.out _ _ hS (fun hS=>?_);clear hK K;refine wpAnyH_done (by kernel_rfl) ?_ _
   try simp only[pA,sB,sC]
   have HBN:Hid _:=bQ1 HBW.out hS;clear hS hb3 hb4 hcc;go_wp2;go_roundw
   case rel=>exact⟨k+1,by omega,by go_num,⟨s|||m,rfl,HT.out.symm⟩,HBN.out⟩
   case measure=>simp[intOf]; omega
  ·obtain rfl:k=cs.length:=by omega
   have HV:Hid (s=R):=hs.out.trans HSE'.out;have HB:Hid _:=bQ1 HC.out hbr;clear hs hbr;go_wp2;go_ret;exact⟨ret_int (by rw[HV.out]),HB.out⟩
end Go.Proofs.YtlpbelhfpoilpaaGreatDoor
namespace Go.Scout
open Go.RowKit
def kindsF (ts:List TableD) (q:QueryV) (l:List Int):Nat:=(l.map fun c=>(kindsN ts q.src.xs c).toNat).foldl max 0
theorem kindsF_take (ts:List TableD) (q:QueryV) {l:List Int} {k:Nat} (hk:k<l.length):kindsF ts q (l.take (k+1))=max (kindsF ts q (l.take k)) (kindsN ts q.src.xs (l.getD k 0)).toNat:=by
 have e:l.getD k 0=l[k]:=by simp[List.getD,hk]
 unfold kindsF;rw[List.take_succ_eq_append_getElem hk,List.map_append,List.foldl_append,e];rfl
theorem parts_cols (ts:List TableD) (q:QueryV) {cs:List CondD} (h1:¬ 1<cs.length) (h0:0<cs.length) (hn:(cs.getD 0 cz).not=false) (h2:(cs.getD 0 cz).op≠1) (h3:(cs.getD 0 cz).op≠2):partsN ts q.src.xs cs=kindsF ts q (condCols (cs.getD 0 cz)):=by
 unfold partsN kindsF condCols;rw[if_neg (by rw[hn]; rintro (h | h); exact h (by omega); cases h),if_neg h2,if_neg h3]
 cases hc:(cs.getD 0 cz).const with
 | true => rw[if_pos rfl,if_neg (by simp)]; simp
 | false => rw[if_neg (by simp),if_pos ⟨h3,rfl⟩]; simp
theorem kindsF_le {ts:List TableD} {q:QueryV} (ok:Ok ts q) {l:List Int} (h:ColOk ts q l) (k:Nat):kindsF ts q (l.take k)<=1000000:=by
 induction k with
 | zero => simp[kindsF]
 | succ k ih =>
  by_cases hk:k<l.length
  ·rw[kindsF_take ts q hk];obtain⟨h0,h1⟩:=h _ (getD_memR hk (d:=0));have:=(kinds_bd ok.cat ok.src h0 h1).2;omega
  ·rw[List.take_of_length_le (by omega)];rw[List.take_of_length_le (by omega)] at ih;exact ih
end Go.Scout
namespace Go.Proofs.YtlpbelhfpoilpaaGreatDoor
open Go.RowKit Go.Scout
theorem partsF_any (f:FactsV) (ts:List TableD) (q:QueryV) (ca:Option Addr) (cc:Nat) (cs:List CondD) (w:World) (ok:Ok ts q) (hf:ColsAt w f.ca (colsN ts q)) (hx:CondsAt w ca cs) (h0:0<cs.length) (hcol:ColOk ts q (columnsN cs)) :
  Calls Tryz.prog 147 #[.agg (f.cells ts q),.agg #[.slice ca cs.length cc]] w fun e w'=>e=.returned (.int .u64 ((partsN ts q.src.xs cs:Nat):Int))/\Below w.heap.size w w':=by
 obtain⟨cb,co,rfl,c0,c1,c2,c3,c4⟩:=hx.2 0 h0;have hcl:=hx.1;rw[Nat.zero_mul,Nat.add_zero] at c0 c1 c2 c3 c4;have hcol0:ColOk ts q (condCols (cs.getD 0 cz)):=fun c hc=>hcol c (List.mem_flatMap.2 ⟨_,getD_memR h0,hc⟩)
 have HPC:Hid _:=@parts_cols ts q cs;have HPN:Hid (partsN ts q.src.xs cs=if cs.length≠1∨(cs.getD 0 cz).not=true then 2 else if (cs.getD 0 cz).op=1 then 3 else if (cs.getD 0 cz).op=2 then 10 else partsN ts q.src.xs cs):=by
  show _=_
  unfold partsN
  repeat' split
  all_goals rfl
 generalize partsN ts q.src.xs cs=R at *;generalize cs.getD 0 cz=c at *;obtain⟨not,op,left,const,right⟩:=c;simp only at *;obtain⟨w1,hw1⟩:∃ x,w.alloc (.cells (f.cells ts q) 105)=x:=⟨_,rfl⟩
 have hk1:Below w.heap.size w w1:=by rw[<- hw1]; exact bQ2 _ _
 have hg1:GB w1 w.heap.size 105 (f.cells ts q):=by rw[<- hw1]; exact bQ3 _ _
 obtain⟨w2,hw2⟩:∃ x,w1.alloc (.cells #[.slice (some (aD cb co)) cs.length cc] 140)=x:=⟨_,rfl⟩
 have hk2:Below w1.heap.size w1 w2:=by rw[<- hw2]; exact bQ2 _ _
 have hg2:GB w2 w1.heap.size 140 #[.slice (some (aD cb co)) cs.length cc]:=by rw[<- hw2]; exact bQ3 _ _
 obtain⟨w3,hw3⟩:∃ x,w2.alloc (.cells #[.bool not,.int .i64 op,.int .i64 left,.bool const,.int .i64 right] 137)=x:=⟨_,rfl⟩
 have hk3:Below w2.heap.size w2 w3:=by rw[<- hw3]; exact bQ2 _ _
 have hg3:GB w3 w2.heap.size 137 #[.bool not,.int .i64 op,.int .i64 left,.bool const,.int .i64 right]:=by rw[<- hw3]; exact bQ3 _ _
 have hc2:=bQ1 hk1 hk2;have hc3:=bQ1 hc2 hk3;have hc13:=bQ1 hk2 hk3;have d0:=cB hc2 c0;have d1:=cB hc2 c1;have d2:=cB hc2 c2;have d3:=cB hc2 c3;have d4:=cB hc2 c4;have m0:w2.cell? (aD w1.heap.size 0)=some (.slice (some (aD cb co)) cs.length cc):=hg2.cell 0;have m0':=cB hk3 m0;have b0:w3.cell? (aD w2.heap.size 0)=some (.bool not):=hg3.cell 0;have b1:w3.cell? (aD w2.heap.size 1)=some (.int .i64 op):=hg3.cell 1;have b2:w3.cell? (aD w2.heap.size 2)=some (.int .i64 left):=hg3.cell 2;have b3:w3.cell? (aD w2.heap.size 3)=some (.bool const):=hg3.cell 3;have b4:w3.cell? (aD w2.heap.size 4)=some (.int .i64 right):=hg3.cell 4;have q7:w1.cell? (aD w.heap.size 7)=some (.slice f.ca (colsN ts q).length f.cc):=hg1.cell 7;have q7':=cB hc13 q7;have HC:Hid _:=hc3;have HCO:Hid _:=hf.below hc3;have hcll:=hf.1;have hCC:=condColumns_any ⟨not,op,left,const,right⟩ w3;unfold CondD.val at hCC;simp only at hCC;have HXC:Hid (∀ k,k<(condCols ⟨not,op,left,const,right⟩).length->∃ n kd:Nat,(condCols ⟨not,op,left,const,right⟩).getD k 0=n/\n<(colsN ts q).length/\((colsN ts q).getD n (0,0)).2=(kd:Int)/\kd=(kindsN ts q.src.xs ((condCols ⟨not,op,left,const,right⟩).getD k 0)).toNat/\kd<=1000000):=fun k hk=>by
  obtain⟨h0,h1⟩:=hcol0 _ (getD_memR hk (d:=0));have h2:=colsN_len ok;have h3:=kinds_bd ok.cat ok.src h0 h1;refine⟨((condCols ⟨not,op,left,const,right⟩).getD k 0).toNat,(kindsN ts q.src.xs ((condCols ⟨not,op,left,const,right⟩).getD k 0)).toNat,by omega,by omega,?_,rfl,by omega⟩;have e:((colsN ts q).getD ((condCols ⟨not,op,left,const,right⟩).getD k 0).toNat (0,0)).2=kindsN ts q.src.xs ((condCols ⟨not,op,left,const,right⟩).getD k 0):=rfl;rw[e];omega
 have HKT:Hid (∀ k,k<(condCols ⟨not,op,left,const,right⟩).length->kindsF ts q ((condCols ⟨not,op,left,const,right⟩).take (k+1))=max (kindsF ts q ((condCols ⟨not,op,left,const,right⟩).take k)) (kindsN ts q.src.xs ((condCols ⟨not,op,left,const,right⟩).getD k 0)).toNat):=fun k hk=>kindsF_take ts q hk
 have HKL:Hid (∀ k,kindsF ts q ((condCols ⟨not,op,left,const,right⟩).take k)<=1000000):=fun k=>kindsF_le ok hcol0 k
 have HKE:Hid (kindsF ts q ((condCols ⟨not,op,left,const,right⟩).take (condCols ⟨not,op,left,const,right⟩).length)=kindsF ts q (condCols ⟨not,op,left,const,right⟩)):=by show _=_; rw[List.take_length]
 have HK0:Hid (kindsF ts q ((condCols ⟨not,op,left,const,right⟩).take 0)=0):=rfl;have HCL2:Hid ((condCols ⟨not,op,left,const,right⟩).length<=2):=condCols_len _;generalize condCols ⟨not,op,left,const,right⟩=CC at *;generalize f.cells ts q=FC at *;obtain⟨KT,hKT⟩:∃ KT:Nat->Nat,KT=fun k=>kindsF ts q (CC.take k):=⟨_,rfl⟩
 have HKT':Hid (∀ k,k<CC.length->KT (k+1)=max (KT k) (kindsN ts q.src.xs (CC.getD k 0)).toNat):=by rw[hKT]; exact HKT.out
 have HKL':Hid (∀ k,KT k<=1000000):=by rw[hKT]; exact HKL.out
 have HKE':Hid (KT CC.length=kindsF ts q CC):=by rw[hKT]; exact HKE.out
 have HK0':Hid (KT 0=0):=by rw[hKT]; exact HK0.out
 clear hKT HKT HKL HKE HK0 c0 c1 c2 c3 c4 hk1 hk2 hk3 hc2 hc3 hc13 hg1 hg2 hg3 hf hx hcol hcol0 ok;by_cases h1:1<cs.length
 ·have HV:Hid (R=2):=by show _=_; rw[HPN.out,if_pos (.inl (by omega))]
  clear HPN HPC HXC HKT' HKL' HKE' HK0' HCO hCC;go_enter Tryz.func147,Tryz.ntmps147;go_wp2;go_ret;exact⟨ret_int (by rw[HV.out]; rfl),HC.out⟩
 cases not with
 | true =>
  have HV:Hid (R=2):=by show _=_; rw[HPN.out,if_pos (.inr rfl)]
  clear HPN HPC HXC HKT' HKL' HKE' HK0' HCO hCC;go_enter Tryz.func147,Tryz.ntmps147;go_wp2;go_ret;exact⟨ret_int (by rw[HV.out]; rfl),HC.out⟩
 | false =>
  have hn1:¬ (cs.length≠1∨false=true):=by rintro (h | h); exact h (by omega); cases h
  by_cases o1:op=1
  ·have HV:Hid (R=3):=by show _=_; rw[HPN.out,if_neg hn1,if_pos o1]
   subst o1;clear HPN HPC HXC HKT' HKL' HKE' HK0' HCO hCC hn1;go_enter Tryz.func147,Tryz.ntmps147;go_wp2;go_ret;exact⟨ret_int (by rw[HV.out]; rfl),HC.out⟩
  by_cases o2:op=2
  ·have HV:Hid (R=10):=by show _=_; rw[HPN.out,if_neg hn1,if_neg o1,if_pos o2]
   subst o2;clear HPN HPC HXC HKT' HKL' HKE' HK0' HCO hCC hn1;go_enter Tryz.func147,Tryz.ntmps147;go_wp2;go_ret;exact⟨ret_int (by rw[HV.out]; rfl),HC.out⟩
  have HV:Hid (R=kindsF ts q CC):=HPC.out h1 h0 rfl o1 o2;have kb1:(op==1)=false:=by simp[o1]
  have kb2:(op==2)=false:=by simp[o2]
  rw[<- HKE'.out] at HV;clear HPN HPC hn1 o1 o2 HKE';generalize kindsN ts q.src.xs=KN at *;generalize colsN ts q=CS at *;go_enter Tryz.func147,Tryz.ntmps147;go_wp2_with fail;refine hCC.mono ?_;clear hCC hw1 hw2 hw3;rintro e w4 ⟨xb,rfl,hxi,hb4⟩;have q7'':=cB hb4 q7';have HC4:Hid _:=bQ1 HC.out hb4;have HCO4:Hid (ColsAt w4 f.ca CS):=ColsAt.below hb4 HCO.out;have HXI:Hid _:=hxi;have hxl:=HCL2.out;clear hb4 hxi HCO HC m0 m0' b0 b1 b2 b3 b4 q7 q7' d0 d1 d2 d3 d4;go_wp2;go_loop [6,30] (fun sv iv=>∃ k:Nat,k<=CC.length/\iv=.int .i64 k/\(∃ s:Nat,sv=.int .u64 (s:Int)/\Hid (s=KT k))) (fun _ iv=>CC.length-(intOf iv).toNat)
  case atStart=>exact⟨0,Nat.zero_le _,rfl,⟨0,rfl,HK0'.out.symm⟩⟩
  case round=>
   obtain⟨k,hk,rfl,⟨s,rfl,hs⟩⟩:=hrel;by_cases hlt:k<CC.length
   ·obtain⟨xb',xo,e,hxc⟩:=IntsAt.get HXI.out hlt
    cases e
    have hck:=hxc k hlt;obtain⟨n,kd,hn,hnl,hcn,hkd,hkl⟩:=HXC.out k hlt;have HT:Hid _:=HKT'.out k hlt;have hsl:s<=1000000:=by rw[hs.out]; exact HKL'.out k
    obtain⟨yb,yo,hca,_,y1⟩:=(show ColsAt w4 f.ca CS from HCO4.out).2 n hnl;rw[hca] at q7'';rw[hn,Nat.zero_add] at hck;rw[hcn] at y1;rw[<- hs.out,<- hkd] at HT;clear hxc hca hcn hs hkd hn;generalize KN (CC.getD k 0)=kk at *;have hmx:max (s:Int) (kd:Int)=((max s kd:Nat):Int):=by omega
    have hif:(if (s:Int)<(kd:Int) then (kd:Int) else (s:Int))=((max s kd:Nat):Int):=by split <;> omega
    have hif2:(if (kd:Int)<(s:Int) then (s:Int) else (kd:Int))=((max s kd:Nat):Int):=by split <;> omega
    go_wp2;go_round
    case rel=>exact⟨k+1,by omega,by go_num,⟨max s kd,rfl,HT.out.symm⟩⟩
    case measure=>simp[intOf]; omega
   ·obtain rfl:k=CC.length:=by omega
    have HV2:Hid (s=R):=by show _=_; rw[hs.out,HV.out]
    clear hs HV;go_wp2;go_ret;exact⟨ret_int (by rw[HV2.out]),HC4.out⟩
end Go.Proofs.YtlpbelhfpoilpaaGreatDoor
