import Derived.Test.YtlpbelhfpoilpaaGreatDoorC13
set_option linter.all false
set_option maxRecDepth 100000
set_option maxHeartbeats 16000000
namespace Go.Scout
open Go.RowKit
def eqCols (cs:List CondD):Int × Int × Bool:=
 if cs.length > 1∨(cs.getD 0 cz).op≠0∨(cs.getD 0 cz).not=true∨(cs.getD 0 cz).const=true then (0,0,false) else ((cs.getD 0 cz).left,(cs.getD 0 cz).right,true)
theorem keysP_eq (ts:List TableD) (src:List Int) (cs:List CondD) (a b:Nat):keysP ts src cs a b =
  if (eqCols cs).2.2=false then (0,0,false)
  else if (coversB a (2 ^ sourceN ts src (eqCols cs).1)&&coversB b (2 ^ sourceN ts src (eqCols cs).2.1))=true then ((eqCols cs).1,(eqCols cs).2.1,true)
  else if (coversB a (2 ^ sourceN ts src (eqCols cs).2.1)&&coversB b (2 ^ sourceN ts src (eqCols cs).1))=true then ((eqCols cs).2.1,(eqCols cs).1,true)
  else (0,0,false):=by
 unfold keysP eqCols;by_cases h:cs.length > 1∨(cs.getD 0 cz).op≠0∨(cs.getD 0 cz).not=true∨(cs.getD 0 cz).const=true
 ·rw[if_pos h,if_pos h]; rfl
 ·rw[if_neg h,if_neg h]; rfl
theorem eqCols_ok {ts:List TableD} {q:QueryV} (ok:Ok ts q) {k:Nat} (hk:k<q.wh.length) (h:(eqCols (q.wh.getD k lz).cs).2.2=true):ColOk ts q [(eqCols (q.wh.getD k lz).cs).1]/\ColOk ts q [(eqCols (q.wh.getD k lz).cs).2.1]:=by
 have h0:=ok.some k hk;have hc:=ok.cols k hk;generalize (q.wh.getD k lz).cs=cs at *;unfold eqCols at h ⊢;by_cases hh:cs.length > 1∨(cs.getD 0 cz).op≠0∨(cs.getD 0 cz).not=true∨(cs.getD 0 cz).const=true
 ·rw[if_pos hh] at h; cases h
 rw[if_neg hh];have hm:∀ x,x∈condCols (cs.getD 0 cz)->x∈columnsN cs:=fun x hx=>List.mem_flatMap.2 ⟨_,getD_memR h0,hx⟩
 have hop:(cs.getD 0 cz).op=0:=by
  rcases Int.decEq (cs.getD 0 cz).op 0 with h' | h'
  ·exact absurd (.inr (.inl h')) hh
  ·exact h'
 have hco:(cs.getD 0 cz).const=false:=by
  cases h':(cs.getD 0 cz).const with
  | false => rfl
  | true => exact absurd (.inr (.inr (.inr h'))) hh
 have hcc:condCols (cs.getD 0 cz)=[(cs.getD 0 cz).left,(cs.getD 0 cz).right]:=by
  unfold condCols;rw[if_pos ⟨by rw[hop]; decide,hco⟩]
 rw[hcc] at hm;refine⟨fun c hx=>?_,fun c hx=>?_⟩
 ·rw[List.mem_singleton] at hx; rw[hx]; exact hc _ (hm _ (by simp))
 ·rw[List.mem_singleton] at hx; rw[hx]; exact hc _ (hm _ (by simp))
end Go.Scout
namespace Go.Proofs.YtlpbelhfpoilpaaGreatDoor
open Go.RowKit Go.Scout
theorem equalColumns_any (ca:Option Addr) (cc:Nat) (cs:List CondD) (w:World) (hx:CondsAt w ca cs) (h0:0<cs.length) :
  Calls Tryz.prog 255 #[.agg #[.slice ca cs.length cc]] w fun e w'=>e=.returned (.tuple #[.int .i64 (eqCols cs).1,.int .i64 (eqCols cs).2.1,.bool (eqCols cs).2.2])/\Below w.heap.size w w':=by
 obtain⟨cb,co,rfl,c0,c1,c2,c3,c4⟩:=hx.2 0 h0;have hcl:=hx.1;rw[Nat.zero_mul,Nat.add_zero] at c0 c1 c2 c3 c4;have HE:Hid (eqCols cs=if cs.length > 1∨(cs.getD 0 cz).op≠0∨(cs.getD 0 cz).not=true∨(cs.getD 0 cz).const=true then (0,0,false) else ((cs.getD 0 cz).left,(cs.getD 0 cz).right,true)):=rfl;generalize eqCols cs=EC at *;generalize cs.getD 0 cz=c at *;obtain⟨not,op,left,const,right⟩:=c;simp only at *;obtain⟨w1,hw1⟩:∃ x,w.alloc (.cells #[.slice (some (aD cb co)) cs.length cc] 140)=x:=⟨_,rfl⟩
 have hk1:Below w.heap.size w w1:=by rw[<- hw1]; exact bQ2 _ _
 have hg1:GB w1 w.heap.size 140 #[.slice (some (aD cb co)) cs.length cc]:=by rw[<- hw1]; exact bQ3 _ _
 obtain⟨w2,hw2⟩:∃ x,w1.alloc (.cells #[.bool not,.int .i64 op,.int .i64 left,.bool const,.int .i64 right] 137)=x:=⟨_,rfl⟩
 have hk2:Below w1.heap.size w1 w2:=by rw[<- hw2]; exact bQ2 _ _
 have hg2:GB w2 w1.heap.size 137 #[.bool not,.int .i64 op,.int .i64 left,.bool const,.int .i64 right]:=by rw[<- hw2]; exact bQ3 _ _
 have hc1:=hk2;have hc0:Below w.heap.size w w2:=bQ1 hk1 hc1;have gg1:GB w2 w.heap.size 140 #[.slice (some (aD cb co)) cs.length cc]:=hg1.of (hc1.block _ hg1.lt);have g1_0:w2.cell? (aD w.heap.size 0)=some (.slice (some (aD cb co)) cs.length cc):=gg1.cell 0;have gg2:=hg2;have g2_0:w2.cell? (aD w1.heap.size 0)=some (.bool not):=gg2.cell 0;have g2_1:w2.cell? (aD w1.heap.size 1)=some (.int .i64 op):=gg2.cell 1;have g2_2:w2.cell? (aD w1.heap.size 2)=some (.int .i64 left):=gg2.cell 2;have g2_3:w2.cell? (aD w1.heap.size 3)=some (.bool const):=gg2.cell 3;have g2_4:w2.cell? (aD w1.heap.size 4)=some (.int .i64 right):=gg2.cell 4;have k0:w1.cell? (aD w.heap.size 0)=some (.slice (some (aD cb co)) cs.length cc):=hg1.cell 0;have d0:=cB hk1 c0;have d1:=cB hk1 c1;have d2:=cB hk1 c2;have d3:=cB hk1 c3;have d4:=cB hk1 c4;have HC:Hid _:=hc0;clear c0 c1 c2 c3 c4 hx hg1 gg1 hg2 gg2 hk1 hk2 hc0 hc1;by_cases h1:cs.length > 1
 ·obtain rfl:EC=(0,0,false):=by rw[HE.out,if_pos (.inl h1)]
  clear HE;go_enter Tryz.func255,Tryz.ntmps255;go_wp2;go_ret3;exact⟨rfl,HC.out⟩
 by_cases h2:op≠0
 ·obtain rfl:EC=(0,0,false):=by rw[HE.out,if_pos (.inr (.inl h2))]
  have h2':(op != 0)=true:=by rw[bne_iff_ne]; exact h2
  clear HE h2;go_enter Tryz.func255,Tryz.ntmps255;go_wp2;go_ret3;exact⟨rfl,HC.out⟩
 have h2':op=0:=by omega
 subst h2'
 cases not with
 | true =>
  obtain rfl:EC=(0,0,false):=by rw[HE.out,if_pos (.inr (.inr (.inl rfl)))]
  clear HE;go_enter Tryz.func255,Tryz.ntmps255;go_wp2;go_ret3;exact⟨rfl,HC.out⟩
 | false =>
  cases const with
  | true =>
   obtain rfl:EC=(0,0,false):=by rw[HE.out,if_pos (.inr (.inr (.inr rfl)))]
   clear HE;go_enter Tryz.func255,Tryz.ntmps255;go_wp2;go_ret3;exact⟨rfl,HC.out⟩
  | false =>
   obtain rfl:EC=(left,right,true):=by
    rw[HE.out,if_neg];rintro (h | h | h | h)
    ·exact h1 h
    ·exact h rfl
    ·cases h
    ·cases h
   clear HE;go_enter Tryz.func255,Tryz.ntmps255;go_wp2;go_quiet (fail);go_wp2;go_ret3;exact⟨rfl,below_drewN HC.out _⟩
end Go.Proofs.YtlpbelhfpoilpaaGreatDoor
