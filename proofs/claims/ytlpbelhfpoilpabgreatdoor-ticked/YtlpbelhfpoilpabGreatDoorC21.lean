import Derived.Test.YtlpbelhfpoilpabGreatDoorC01
import Derived.Test.YtlpbelhfpoilpabGreatDoorC07
import Derived.Test.YtlpbelhfpoilpabGreatDoorC08
import Derived.Test.YtlpbelhfpoilpabGreatDoorC13
set_option linter.all false
set_option maxRecDepth 100000
set_option maxHeartbeats 16000000
namespace Go.Proofs.YtlpbelhfpoilpabGreatDoor
open Go.RowKit Go.Scout Go.Shelf
theorem between_any {F:Nat->Prop} {W0 w:World} {f:FactsV} {ts:List TableD} {q:QueryV} (E:Env f ts q W0) (hz:Fz F W0 w) (a b:Nat) (ha:a<2 ^ q.src.xs.length) (hb:b<2 ^ q.src.xs.length) :
  Calls Tryz.prog 132 #[.agg (f.cells ts q),.int .u64 (a:Int),.int .u64 (b:Int)] w fun e w'=>e=.returned (.int .u64 ((betweenP (concL ts q) a b:Nat):Int))/\Below w.heap.size w w':=by
 obtain⟨v0,v1,v2,v3,v4,v5,v6,v7,v8,v9,v10,v11,v12,hFC,-⟩:=factsCells f ts q;have h64:2 ^ q.src.xs.length<=18446744073709551616:=Nat.pow_le_pow_right (n:=2) (by omega) E.ok.small;have hw64:∀ s,withinP (concL ts q) s<18446744073709551616:=fun s=>Nat.lt_of_lt_of_le (withinTo_lt _ _ (concL ts q).length) (Nat.pow_le_pow_right (n:=2) (by omega) (show (concL ts q).length<=64 by rw[concL_len]; exact E.ok.whs))
 have hab:a|||b<2 ^ q.src.xs.length:=or_lt ha hb
 have HWI:Hid (∀ (x:World) (s:Nat),s<18446744073709551616->Below w.heap.size w x->Calls Tryz.prog 108 #[.agg #[v0,v1,v2,v3,v4,v5,v6,v7,v8,v9,v10,v11,v12],.int .u64 (s:Int)] x fun e w'=>e=.returned (.int .u64 ((withinP (concL ts q) s:Nat):Int))/\Below x.heap.size x w'):=fun x s hs hx=>by
  rw[<- hFC];exact withinF_any f ts q s x E.ok ((E.at' hz).below hx) hs
 have hR:betweenP (concL ts q) a b=withinP (concL ts q) (a|||b) &&& (18446744073709551615-(withinP (concL ts q) a|||withinP (concL ts q) b)):=rfl;rw[hR,hFC];have HH:Hid (a<18446744073709551616/\b<18446744073709551616/\a|||b<18446744073709551616):=⟨by omega,by omega,by omega⟩
 have h1:=hw64 (a|||b);have h2:=hw64 a;have h3:=hw64 b;have HWA:Hid (∀ x,Below w.heap.size w x->Calls Tryz.prog 108 #[.agg #[v0,v1,v2,v3,v4,v5,v6,v7,v8,v9,v10,v11,v12],.int .u64 ((a|||b:Nat):Int)] x fun e w'=>e=.returned (.int .u64 ((withinP (concL ts q) (a|||b):Nat):Int))/\Below x.heap.size x w'):=fun x hx=>HWI.out x _ HH.out.2.2 hx
 have HWB:Hid (∀ x,Below w.heap.size w x->Calls Tryz.prog 108 #[.agg #[v0,v1,v2,v3,v4,v5,v6,v7,v8,v9,v10,v11,v12],.int .u64 (a:Int)] x fun e w'=>e=.returned (.int .u64 ((withinP (concL ts q) a:Nat):Int))/\Below x.heap.size x w'):=fun x hx=>HWI.out x _ HH.out.1 hx
 have HWC:Hid (∀ x,Below w.heap.size w x->Calls Tryz.prog 108 #[.agg #[v0,v1,v2,v3,v4,v5,v6,v7,v8,v9,v10,v11,v12],.int .u64 (b:Int)] x fun e w'=>e=.returned (.int .u64 ((withinP (concL ts q) b:Nat):Int))/\Below x.heap.size x w'):=fun x hx=>HWI.out x _ HH.out.2.1 hx
 generalize withinP (concL ts q) (a|||b)=A1 at *;generalize withinP (concL ts q) a=A2 at *;generalize withinP (concL ts q) b=A3 at *;have h4:A2|||A3<18446744073709551616:=or_lt (n:=64) h2 h3
 have HAN:=u64_andNot_nat A1 (A2|||A3) h1 h4;have HUA:Hid (∀ (x:World) (c:Nat),x.cell? (aD c 0)=some (.int .u64 (a:Int))->x.cell? (aD c 1)=some (.int .u64 (b:Int))->Calls Tryz.prog 75 #[.slice (some (aD c 0)) 2 2] x fun e w'=>e=.returned (.int .u64 ((a|||b:Nat):Int))/\w' = x):=fun x c e0 e1=>union_two c a b x e0 e1 HH.out.1 HH.out.2.1
 have HUB:Hid (∀ (x:World) (c:Nat),x.cell? (aD c 0)=some (.int .u64 (A2:Int))->x.cell? (aD c 1)=some (.int .u64 (A3:Int))->Calls Tryz.prog 75 #[.slice (some (aD c 0)) 2 2] x fun e w'=>e=.returned (.int .u64 ((A2|||A3:Nat):Int))/\w' = x):=fun x c e0 e1=>union_two c A2 A3 x e0 e1 h2 h3
 generalize a|||b=ab at *
 generalize A2|||A3=A23 at *
 generalize A1 &&& (18446744073709551615-A23)=RR at *;clear hR hFC E hz ha hb h64 hw64 hab HWI HH h1 h2 h3 h4;obtain⟨w1,hw1,hb1,hg1⟩:=newB w #[v0,v1,v2,v3,v4,v5,v6,v7,v8,v9,v10,v11,v12] 79;have a0:w1.cell? (aD w.heap.size 0)=some v0:=hg1.cell 0;have a1:w1.cell? (aD w.heap.size 1)=some v1:=hg1.cell 1;have a2:w1.cell? (aD w.heap.size 2)=some v2:=hg1.cell 2;have a3:w1.cell? (aD w.heap.size 3)=some v3:=hg1.cell 3;have a4:w1.cell? (aD w.heap.size 4)=some v4:=hg1.cell 4;have a5:w1.cell? (aD w.heap.size 5)=some v5:=hg1.cell 5;have a6:w1.cell? (aD w.heap.size 6)=some v6:=hg1.cell 6;have a7:w1.cell? (aD w.heap.size 7)=some v7:=hg1.cell 7;have a8:w1.cell? (aD w.heap.size 8)=some v8:=hg1.cell 8;have a9:w1.cell? (aD w.heap.size 9)=some v9:=hg1.cell 9;have a10:w1.cell? (aD w.heap.size 10)=some v10:=hg1.cell 10;have a11:w1.cell? (aD w.heap.size 11)=some v11:=hg1.cell 11;have a12:w1.cell? (aD w.heap.size 12)=some v12:=hg1.cell 12;have HB1:Hid (Below w.heap.size w w1):=hb1;clear hb1 hg1;go_enter Tryz.func132,Tryz.ntmps132;go_wp2_with fail;clear hw1;refine wp_region_held_drew (S:=fun x=>Below w1.heap.size w1 x) (by kernel_rfl) ((Below.refl _ _).drew) (fun hS=>?_);refine wT 0 (.agg #[v0,v1,v2,v3,v4,v5,v6,v7,v8,v9,v10,v11,v12]) hS (fun x hx=>?_) ?_
 ·have e0:=cB hx a0;have e1:=cB hx a1;have e2:=cB hx a2;have e3:=cB hx a3;have e4:=cB hx a4;have e5:=cB hx a5;have e6:=cB hx a6;have e7:=cB hx a7;have e8:=cB hx a8;have e9:=cB hx a9;have e10:=cB hx a10;have e11:=cB hx a11;have e12:=cB hx a12;go_simp
 refine wT 1 (.int .u64 (a:Int)) hS (fun x hx=>?_) ?_
 ·go_simp
 refine wT 2 (.int .u64 (b:Int)) hS (fun x hx=>?_) ?_
 ·go_simp
 refine wT 6 (.agg #[v0,v1,v2,v3,v4,v5,v6,v7,v8,v9,v10,v11,v12]) hS (fun x hx=>?_) ?_
 ·have e0:=cB hx a0;have e1:=cB hx a1;have e2:=cB hx a2;have e3:=cB hx a3;have e4:=cB hx a4;have e5:=cB hx a5;have e6:=cB hx a6;have e7:=cB hx a7;have e8:=cB hx a8;have e9:=cB hx a9;have e10:=cB hx a10;have e11:=cB hx a11;have e12:=cB hx a12;go_simp
 refine wT 7 (.int .u64 (a:Int)) hS (fun x hx=>?_) ?_
 ·go_simp
 refine wT 9 (.agg #[v0,v1,v2,v3,v4,v5,v6,v7,v8,v9,v10,v11,v12]) hS (fun x hx=>?_) ?_
 ·have e0:=cB hx a0;have e1:=cB hx a1;have e2:=cB hx a2;have e3:=cB hx a3;have e4:=cB hx a4;have e5:=cB hx a5;have e6:=cB hx a6;have e7:=cB hx a7;have e8:=cB hx a8;have e9:=cB hx a9;have e10:=cB hx a10;have e11:=cB hx a11;have e12:=cB hx a12;go_simp
 refine wT 10 (.int .u64 (b:Int)) hS (fun x hx=>?_) ?_
 ·go_simp
 refine wR 3 fun K hK=>?_
 go_simp;refine hK.out _ _ (hS.trans (bQ2 _ _ |>.mono hS.size)) (fun hS=>?_);clear hK K;refine wR 4 fun K hK=>?_
 go_simp;refine Calls.mono (HUA.out _ _ (by simp) (by simp)) ?_;rintro e w2 ⟨rfl,hw2⟩;have hw2:=hw2.symm;subst hw2;refine hK.out _ _ (hS) (fun hS=>?_);clear hK K;refine wR 5 fun K hK=>?_
 go_simp;refine Calls.mono (HWA.out _ (bQ1 HB1.out hS)) ?_;rintro e w3 ⟨rfl,hb⟩;refine hK.out _ _ (hS.trans (hb.mono hS.size)) (fun hS=>?_);clear hK K;refine wR 8 fun K hK=>?_
 go_simp;refine Calls.mono (HWB.out _ (bQ1 HB1.out hS)) ?_;rintro e w4 ⟨rfl,hb⟩;refine hK.out _ _ (hS.trans (hb.mono hS.size)) (fun hS=>?_);clear hK K;refine wR 11 fun K hK=>?_
 go_simp;refine Calls.mono (HWC.out _ (bQ1 HB1.out hS)) ?_;rintro e w5 ⟨rfl,hb⟩;refine hK.out _ _ (hS.trans (hb.mono hS.size)) (fun hS=>?_);clear hK K;refine wR 12 fun K hK=>?_
 go_simp;refine hK.out _ _ (hS.trans (bQ2 _ _ |>.mono hS.size)) (fun hS=>?_);clear hK K;refine wR 13 fun K hK=>?_
 go_simp;refine Calls.mono (HUB.out _ _ (by simp) (by simp)) ?_;rintro e w6 ⟨rfl,hw6⟩;have hw6:=hw6.symm;subst hw6;refine hK.out _ _ (hS) (fun hS=>?_);clear hK K;refine wR 14 fun K hK=>?_
 go_simp;refine hK.out _ _ (hS) (fun hS=>?_);clear hK K;refine wR 15 fun K hK=>?_
 go_simp;refine hK.out _ _ (hS) (fun hS=>?_);clear hK K;refine wpAnyH_done (by kernel_rfl) ?_ _
 try simp only[pA,sB,sC]
 have HF:Hid _:=bQ1 HB1.out hS;clear hS;go_wp2;go_ret;refine⟨ret_int ?_,HF.out⟩
 first | rfl | simp
end Go.Proofs.YtlpbelhfpoilpabGreatDoor
namespace Go.Scout
open Go.RowKit
theorem keysP_eq (ts:List TableD) (src:List Int) (cs:List CondD) (a b:Nat):keysP ts src cs a b =
  if (eqCols cs).2.2=false then (0,0,false)
  else if (coversB a (2 ^ sourceN ts src (eqCols cs).1)&&coversB b (2 ^ sourceN ts src (eqCols cs).2.1))=true then ((eqCols cs).1,(eqCols cs).2.1,true)
  else if (coversB a (2 ^ sourceN ts src (eqCols cs).2.1)&&coversB b (2 ^ sourceN ts src (eqCols cs).1))=true then ((eqCols cs).2.1,(eqCols cs).1,true)
  else (0,0,false):=by
 unfold keysP eqCols;by_cases h:cs.length > 1∨(cs.getD 0 cz).op≠0∨(cs.getD 0 cz).not=true∨(cs.getD 0 cz).const=true
 ·rw[if_pos h,if_pos h]; rfl
 ·rw[if_neg h,if_neg h]; rfl
theorem eqCols_ok {ts:List TableD} {q:QueryV} (ok:Ok ts q) {k:Nat} (hk:k<q.wh.length) (h:(eqCols (q.wh.getD k lz).cs).2.2=true):ColOk ts q [(eqCols (q.wh.getD k lz).cs).1]/\ColOk ts q [(eqCols (q.wh.getD k lz).cs).2.1]:=by
 have h0:=ok.some k hk;have hc:=ok.cols k hk;generalize (q.wh.getD k lz).cs=cs at *;unfold eqCols at h ⊢;by_cases hh:cs.length > 1∨(cs.getD 0 cz).op≠0∨(cs.getD 0 cz).not=true∨(cs.getD 0 cz).const=true
 ·rw[if_pos hh] at h; cases h
 rw[if_neg hh];have hm:∀ x,x∈condCols (cs.getD 0 cz)->x∈columnsN cs:=fun x hx=>List.mem_flatMap.2 ⟨_,getD_memR h0,hx⟩
 have hop:(cs.getD 0 cz).op=0:=by
  rcases Int.decEq (cs.getD 0 cz).op 0 with h' | h'
  ·exact absurd (.inr (.inl h')) hh
  ·exact h'
 have hco:(cs.getD 0 cz).const=false:=by
  cases h':(cs.getD 0 cz).const with
  | false => rfl
  | true => exact absurd (.inr (.inr (.inr h'))) hh
 have hcc:condCols (cs.getD 0 cz)=[(cs.getD 0 cz).left,(cs.getD 0 cz).right]:=by
  unfold condCols;rw[if_pos ⟨by rw[hop]; decide,hco⟩]
 rw[hcc] at hm;refine⟨fun c hx=>?_,fun c hx=>?_⟩
 ·rw[List.mem_singleton] at hx; rw[hx]; exact hc _ (hm _ (by simp))
 ·rw[List.mem_singleton] at hx; rw[hx]; exact hc _ (hm _ (by simp))
end Go.Scout
namespace Go.Proofs.YtlpbelhfpoilpabGreatDoor
open Go.RowKit Go.Scout
theorem equalColumns_any (ca:Option Addr) (cc:Nat) (cs:List CondD) (w:World) (hx:CondsAt w ca cs) (h0:0<cs.length) :
  Calls Tryz.prog 70 #[.agg #[.slice ca cs.length cc]] w fun e w'=>e=.returned (.tuple #[.int .i64 (eqCols cs).1,.int .i64 (eqCols cs).2.1,.bool (eqCols cs).2.2])/\Below w.heap.size w w':=by
 obtain⟨cb,co,rfl,c0,c1,c2,c3,c4⟩:=hx.2 0 h0;have hcl:=hx.1;rw[Nat.zero_mul,Nat.add_zero] at c0 c1 c2 c3 c4;have HE:Hid (eqCols cs=if cs.length > 1∨(cs.getD 0 cz).op≠0∨(cs.getD 0 cz).not=true∨(cs.getD 0 cz).const=true then (0,0,false) else ((cs.getD 0 cz).left,(cs.getD 0 cz).right,true)):=rfl;generalize eqCols cs=EC at *;generalize cs.getD 0 cz=c at *;obtain⟨not,op,left,const,right⟩:=c;simp only at *;obtain⟨w1,hw1,hk1,hg1⟩:=newB w #[.slice (some (aD cb co)) cs.length cc] 67;obtain⟨w2,hw2,hk2,hg2⟩:=newB w1 #[.bool not,.int .i64 op,.int .i64 left,.bool const,.int .i64 right] 63;have hc1:=hk2;have hc0:Below w.heap.size w w2:=bQ1 hk1 hc1;have gg1:GB w2 w.heap.size 67 #[.slice (some (aD cb co)) cs.length cc]:=hg1.of (hc1.block _ hg1.lt);have g1_0:w2.cell? (aD w.heap.size 0)=some (.slice (some (aD cb co)) cs.length cc):=gg1.cell 0;have gg2:=hg2;have g2_0:w2.cell? (aD w1.heap.size 0)=some (.bool not):=gg2.cell 0;have g2_1:w2.cell? (aD w1.heap.size 1)=some (.int .i64 op):=gg2.cell 1;have g2_2:w2.cell? (aD w1.heap.size 2)=some (.int .i64 left):=gg2.cell 2;have g2_3:w2.cell? (aD w1.heap.size 3)=some (.bool const):=gg2.cell 3;have g2_4:w2.cell? (aD w1.heap.size 4)=some (.int .i64 right):=gg2.cell 4;have k0:w1.cell? (aD w.heap.size 0)=some (.slice (some (aD cb co)) cs.length cc):=hg1.cell 0;have d0:=cB hk1 c0;have d1:=cB hk1 c1;have d2:=cB hk1 c2;have d3:=cB hk1 c3;have d4:=cB hk1 c4;have HC:Hid _:=hc0;clear c0 c1 c2 c3 c4 hx hg1 gg1 hg2 gg2 hk1 hk2 hc0 hc1;by_cases h1:cs.length > 1
 ·obtain rfl:EC=(0,0,false):=by rw[HE.out,if_pos (.inl h1)]
  clear HE;go_enter Tryz.func70,Tryz.ntmps70;go_wp2;go_ret3;exact⟨rfl,HC.out⟩
 by_cases h2:op≠0
 ·obtain rfl:EC=(0,0,false):=by rw[HE.out,if_pos (.inr (.inl h2))]
  have h2':(op != 0)=true:=by rw[bne_iff_ne]; exact h2
  clear HE h2;go_enter Tryz.func70,Tryz.ntmps70;go_wp2;go_ret3;exact⟨rfl,HC.out⟩
 have h2':op=0:=by omega
 subst h2'
 cases not with
 | true =>
  obtain rfl:EC=(0,0,false):=by rw[HE.out,if_pos (.inr (.inr (.inl rfl)))]
  clear HE;go_enter Tryz.func70,Tryz.ntmps70;go_wp2;go_ret3;exact⟨rfl,HC.out⟩
 | false =>
  cases const with
  | true =>
   obtain rfl:EC=(0,0,false):=by rw[HE.out,if_pos (.inr (.inr (.inr rfl)))]
   clear HE;go_enter Tryz.func70,Tryz.ntmps70;go_wp2;go_ret3;exact⟨rfl,HC.out⟩
  | false =>
   obtain rfl:EC=(left,right,true):=by
    rw[HE.out,if_neg];rintro (h | h | h | h)
    ·exact h1 h
    ·exact h rfl
    ·cases h
    ·cases h
   clear HE;go_enter Tryz.func70,Tryz.ntmps70;go_wp2;go_quiet (fail);go_wp2;go_ret3;exact⟨rfl,below_drewN HC.out _⟩
end Go.Proofs.YtlpbelhfpoilpabGreatDoor
