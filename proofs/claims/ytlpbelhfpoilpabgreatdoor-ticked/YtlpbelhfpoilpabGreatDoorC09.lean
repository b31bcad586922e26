import Derived.Test.YtlpbelhfpoilpabGreatDoorC01
import Derived.Test.YtlpbelhfpoilpabGreatDoorC05
import Derived.Test.YtlpbelhfpoilpabGreatDoorC07
import Derived.Test.YtlpbelhfpoilpabGreatDoorC08
set_option linter.all false
set_option maxRecDepth 100000
set_option maxHeartbeats 16000000
namespace Go.Scout
open Go.RowKit
theorem prefix_mem {α:Type} {pre l:List α} {x:α} (h:pre++[x] <+: l):x∈l:=h.subset (by simp)
structure BoxI (w2:World) (t:TypeId) (X:Nat) (o1:Nat->Prop) (W:World):Prop where
 g:GB W w2.heap.size t #[.int .u64 (X:Int)]
 below:Below w2.heap.size w2 W
 iff:∀ b,o1 b↔b=w2.heap.size
theorem BoxI.keep {w2:World} {t:TypeId} {X:Nat} {o1:Nat->Prop} {A B:World} {n:Nat} (h:BoxI w2 t X o1 A) (hn:w2.heap.size<=n) (hk:Kept (fun b=>o1 b∨b<n) A B):BoxI w2 t X o1 B:=
 ⟨h.g.keep hk (.inl ((h.iff _).2 rfl)),h.below.trans (hk.below h.below.size (fun b hb=>.inr (by omega))),h.iff⟩
theorem BoxI.step {w2:World} {t:TypeId} {X Y:Nat} {o1:Nat->Prop} {W:World} (h:BoxI w2 t X o1 W):BoxI w2 t Y o1 (W.drew.setCell (aD w2.heap.size 0) (.int .u64 (Y:Int)))/\Kept (fun b=>¬ o1 b) W (W.drew.setCell (aD w2.heap.size 0) (.int .u64 (Y:Int))):=by
 have hk:Kept (fun b=>b≠w2.heap.size) W (W.drew.setCell (aD w2.heap.size 0) (.int .u64 (Y:Int))):=(Kept.of_below ((Below.refl W.heap.size W).drew) (fun b hb _=>hb)).trans (Kept.setCell _ _ _ (fun h=>h rfl));exact⟨⟨(h.g.keep (Kept.of_below (s:=fun _=>True) ((Below.refl W.heap.size W).drew) (fun b hb _=>hb)) trivial).set 0 _,h.below.trans (hk.below h.below.size (fun b hb=>Nat.ne_of_lt hb)),h.iff⟩,hk.mono fun b _ hb e=>hb ((h.iff b).2 e)⟩
end Go.Scout
namespace Go.Proofs.YtlpbelhfpoilpabGreatDoor
open Go.RowKit Go.Scout Go.Shelf
attribute [local go_sem] Oper.semAt_some
theorem sizeOf_rest (f:FactsV) (ts:List TableD) (q:QueryV) (p:PartV) (ao:Option Addr) (pl cap:Nat) (w:World) (ok:Ok ts q) (hf:f.At ts q w) (hs:p.sources<2 ^ q.src.xs.length) (hc:p.clauses<2 ^ q.wh.length) (hk:outK p.kind=false) :
  Calls Tryz.prog 118 #[.agg (f.cells ts q),.agg p.cells,.slice ao pl cap] w fun e w'=>e=.returned (.int .u64 ((sizeP ts q p.sources p.clauses:Nat):Int))/\Below w.heap.size w w':=by
 have hs64:p.sources<18446744073709551616:=Nat.lt_of_lt_of_le hs (Nat.pow_le_pow_right (n:=2) (by omega) ok.small);have hc64:p.clauses<18446744073709551616:=Nat.lt_of_lt_of_le hc (Nat.pow_le_pow_right (n:=2) (by omega) ok.whs);have HSM:Hid (∀ x∈risingN p.sources,x<q.src.xs.length):=fun x hx=>rising_lt hs hx
 have HCM:Hid (∀ x∈risingN p.clauses,x<q.wh.length):=fun x hx=>rising_lt hc hx
 have HSQ:Hid (∀ w0,SeqB numEl Tryz.prog 42 (.int .u64 (p.sources:Int)) (risingN p.sources) w0):=rising_seq p.sources hs64;have HCQ:Hid (∀ w0,SeqB numEl Tryz.prog 42 (.int .u64 (p.clauses:Int)) (risingN p.clauses) w0):=rising_seq p.clauses hc64;have HR:Hid _:=hf.rows;have HP:Hid _:=hf.parts;have HRL:Hid ((rowsL ts q).length=q.src.xs.length):=rowsL_len ts q;have HPL:Hid ((partL ts q).length=q.wh.length):=partL_len ts q;have HRB:Hid (∀ x,x<q.src.xs.length->(rowsL ts q).getD x 0<=topN):=fun x hx=>by
  rw[rowsL_get ts q hx];obtain⟨h0,h1⟩:=allB_get ok.src (k:=x) hx;have ht:=table_of ok.cat (i:=(q.src.xs.getD x 0).toNat) (by omega);unfold tableB at ht;rw[decide_eq_true_eq] at ht;unfold rowsN topN;rw[Int.toNat_natCast];omega
 have HPB:Hid (∀ x,x<q.wh.length->1<=(partL ts q).getD x 0/\(partL ts q).getD x 0<=1000000):=fun x hx=>by
  rw[partL_get ts q hx];exact parts_bd ok.cat ok.src (ok.cols x hx)
 obtain⟨X,hX0,hXs,hXt,hXa⟩:∃ X:List Nat->Nat,X []=1/\(∀ pre x,x<q.src.xs.length->X (pre++[x])=timesN (X pre) ((rowsL ts q).getD x 0))/\(∀ pre,X pre<=topN)/\X (risingN p.sources)=((risingN p.sources).map fun (k:Nat)=>rowsN ts q.src.xs (k:Int)).foldl timesN 1:=
  ⟨fun pre=>(pre.map fun (k:Nat)=>rowsN ts q.src.xs (k:Int)).foldl timesN 1,rfl,fun pre x hx=>by simp only[List.map_append,List.foldl_append]; rw[rowsL_get ts q hx]; rfl,fun pre=>timesN_fold_le _ 1 (by unfold topN; omega),rfl⟩
 obtain⟨S0,hS0⟩:∃ S0,X (risingN p.sources)=S0:=⟨_,rfl⟩
 obtain⟨Y,hY0,hYs,hYt,hYa⟩:∃ Y:List Nat->Nat,Y []=S0/\(∀ pre x,x<q.wh.length->Y (pre++[x])=Y pre / (partL ts q).getD x 0)/\(∀ pre,Y pre<=topN)/\Y (risingN p.clauses)=(risingN p.clauses).foldl (fun x c=>x / partsN ts q.src.xs (q.wh.getD c lz).cs) S0:=
  ⟨fun pre=>pre.foldl (fun x c=>x / partsN ts q.src.xs (q.wh.getD c lz).cs) S0,rfl,fun pre x hx=>by simp only[List.foldl_append]; rw[partL_get ts q hx]; rfl,fun pre=>Nat.le_trans (div_fold_le _ pre S0) (by rw[<- hS0]; exact hXt _),rfl⟩
 obtain⟨R,hR⟩:∃ R,R=sizeP ts q p.sources p.clauses:=⟨_,rfl⟩
 have HRE:Hid (R=if S0=0 then 0 else max (Y (risingN p.clauses)) 1):=by
  show R=_
  rw[hR];unfold sizeP;rw[<- hXa,hS0,hYa]
 rw[<- hR];clear hR;have HX0:Hid _:=hX0;have HXS:Hid _:=hXs;have HXT:Hid _:=hXt;have HS0:Hid _:=hS0;have HY0:Hid _:=hY0;have HYS:Hid _:=hYs;have HYT:Hid _:=hYt;clear hX0 hXs hXt hXa hS0 hY0 hYs hYt hYa;have hOK:=fun x=>outK_any p.kind x
 rw[hk] at hOK;obtain⟨v0,v1,v2,v3,v4,v5,v6,v7,v8,v9,v10,v11,v12,hFC,-,-,-,-,-,-,-,-,-,-,hv10,-,hv12⟩:=factsCells f ts q;rw[hFC];rw[hf.pl] at hv12;rw[partCells];clear hk hs hc hs64 hc64 hFC ok hf;generalize rowsL ts q=RL at *;generalize partL ts q=PL at *;generalize risingN p.sources=SL at *;generalize risingN p.clauses=CL at *;obtain⟨kind,ps,pc,ord,pz1,pz2⟩:=p;simp only at *;generalize ord.val=od at *;obtain⟨w1,hw1,hk1,hg1⟩:=newB w #[v0,v1,v2,v3,v4,v5,v6,v7,v8,v9,v10,v11,v12] 79;obtain⟨w2,hw2,hk2,hg2⟩:=newB w1 #[.int .i64 kind,.int .u64 (ps:Int),.int .u64 (pc:Int),od,.int .u64 (pz1:Int),.int .u64 (pz2:Int)] 92;have hc1:=hk2;have hc0:Below w.heap.size w w2:=bQ1 hk1 hc1;have gg1:GB w2 w.heap.size 79 #[v0,v1,v2,v3,v4,v5,v6,v7,v8,v9,v10,v11,v12]:=hg1.of (hc1.block _ hg1.lt);have g1_10:w2.cell? (aD w.heap.size 10)=some (v10):=gg1.cell 10;have g1_12:w2.cell? (aD w.heap.size 12)=some (v12):=gg1.cell 12;have gg2:=hg2;have g2_0:w2.cell? (aD w1.heap.size 0)=some (.int .i64 kind):=gg2.cell 0;have g2_1:w2.cell? (aD w1.heap.size 1)=some (.int .u64 (ps:Int)):=gg2.cell 1;have g2_2:w2.cell? (aD w1.heap.size 2)=some (.int .u64 (pc:Int)):=gg2.cell 2;rw[hv10] at g1_10;rw[hv12] at g1_12;clear hv10 hv12;obtain⟨w3,hw3,hk3,hg3⟩:=newB w2 #[.int .u64 1] 37;have hz3:Hid (w3.heap.size=w2.heap.size+1):=by rw[<- hw3]; show _=_; simp
 have HK0:Hid _:=hc0;have HK3:Hid _:=hk3;have HG3:Hid _:=hg3;have b1:w3.cell? (aD w1.heap.size 1)=some (.int .u64 (ps:Int)):=cB hk3 g2_1;have G110:Hid _:=g1_10;have G112:Hid _:=g1_12;have G22:Hid _:=g2_2;clear hk1 hk2 hg1 hg2 gg1 gg2 hc0 hc1 hk3 hg3 g1_10 g1_12 g2_2 g2_1;refine (callsIn_wide (n:=0)).1 (callsIn_of_wp_marks Tryz.func118 rfl trivial ?_ rfl);simp only[Tryz.ntmps118,List.size_toArray,List.length_cons,List.length_nil,Nat.reduceAdd,Nat.reduceSub,Array.replicate_succ,Array.replicate_zero,List.push_toArray,List.append_toArray,List.nil_append,List.cons_append]
 gi_wp2
 refine⟨trivial,rfl,callsIn_wide.2 ((hOK _).mono ?_)⟩;rintro e W ⟨rfl,hWe⟩;have hWe:=hWe.symm;subst hWe;clear hOK
 gi_wp2
 clear b1 g2_0 hw1 hw2 hw3;refine wp_rangeB numEl (gf:=42) (s:=.int .u64 (ps:Int)) rfl (enters_of Tryz.func42 (by kernel_rfl) rfl) (HSQ.out w2) HK3.out rfl
  (fun pre o1 W=>BoxI w2 37 (X pre) o1 W) (fun b=>b=w2.heap.size) ?_ ?_ ⟨by rw[HX0.out]; exact HG3.out,HK3.out,fun _=>Iff.rfl⟩
  (fun x=>{ tmps:=#[.agg #[v0,v1,v2,v3,v4,v5,v6,v7,v8,v9,v10,v11,v12],.agg #[.int .i64 kind,.int .u64 (ps:Int),.int .u64 (pc:Int),od,.int .u64 (pz1:Int),.int .u64 (pz2:Int)],.slice ao pl cap,.pointer (some (aD w.heap.size 0)),.pointer (some (aD w1.heap.size 0)),undef,.int .u64 0,.pointer (some (aD w2.heap.size 0)),.int .i64 (x:Int),undef,undef,.pointer (some (aD w1.heap.size 0)),.int .i64 kind,.bool false,undef,undef,undef,undef,.pointer (some (aD w1.heap.size 1)),.int .u64 (ps:Int),.func (.func 42) #[.int .u64 (ps:Int)] #[],.int .i64 (x:Int),undef,undef,undef,undef,undef,undef,undef,undef,undef,undef,undef,undef,undef,undef,undef,undef,undef,undef,undef,undef,undef,undef,undef],defers:=[] }) ?assign ?body ?done
 ·rintro b rfl;exact⟨Nat.le_refl _,by have:=hz3.out; omega⟩
 ·intro pre o1 A B h hk;exact h.keep (by have:=hz3.out; omega) hk
 case assign=>
  intro l x W K hK;have he:numEl.enc x=.int .i64 (x:Int):=rfl
  gi_wp2
  exact hK
 case body=>
  intro l pre x o1 W hI hpre hx hoff hsz;have hx':x<q.src.xs.length:=HSM.out x (prefix_mem (by simpa [numEl] using hpre));have hbW:Below w.heap.size w W:=HK0.out.trans (hI.below.mono HK0.out.size);obtain⟨rb,ro,hra,hrc⟩:=NatsAt.get (NatsAt.below hbW HR.out) (i:=x) (by rw[HRL.out]; exact hx');have hrx:=hrc x (by rw[HRL.out]; exact hx');have hXn:Hid _:=HXS.out pre x hx';have hrt:=HRB.out x hx';have hXt:=HXT.out pre;have hcx:W.cell? (aD w2.heap.size 0)=some (.int .u64 (X pre:Int)):=hI.g.cell 0;have hfx:=hI.g.frozen 0;have hc10:=cB hI.below G110.out;rw[hra] at hc10;have HI:Hid _:=hI;clear hrc hpre hx hoff hsz hI hbW hra;generalize RL.getD x 0=rn at *;have hT:=fun y=>timesP_any (X pre) rn y hXt hrt
  rw[<- hXn.out] at hT;have HFIN:Hid (∀ act,roundKeeps numEl (fun pre o1 W=>BoxI w2 37 (X pre) o1 W) pre x w3.heap.size o1 W .normal act (W.drew.setCell (aD w2.heap.size 0) (.int .u64 (X (pre++[x]):Int)))):=fun _=>⟨o1,HI.out.step.1,HI.out.step.2,fun b hb=>.inl hb⟩
  clear hrt hXt hXn;generalize X (pre++[x])=Xn at *;generalize X pre=Xp at *
  gi_wp2_with fail
  have hfol:Tryz.prog.follows .mixedOrders=true:=by kernel_rfl
  refine wpIn_region_any hfol (anyIn_round (noDefer_spec (by kernel_rfl)) _ _ _ _ ?_);change wpAnyIn _ _ _ _ _ _ _ _ _ (World.drew _);refine wpAnyIn_take (i:=1) (v:=.pointer (some (aD w.heap.size 10))) rfl rfl (by kernel_rfl) (by kernel_rfl) (by kernel_rfl) (fun _ _ _ h=>h) ⟨Or.inl ⟨by rfl,fun w=>by go_simp⟩,fun _=>rfl⟩ ?_;refine wpAnyIn_take (i:=3) (v:=.int .i64 (x:Int)) rfl rfl (by kernel_rfl) (by kernel_rfl) (by kernel_rfl) (fun _ _ _ h=>h) ⟨Or.inl ⟨by rfl,fun w=>by go_simp⟩,fun _=>rfl⟩ ?_;refine wpAnyIn_ready (rs:=[0,2]) (by kernel_rfl) (by simp) ?_;refine AllReadyIn.cons rfl (fun K hK=>?_) ?_
  ·skip;go_simp;refine hK _ _ ?_;clear hK K;refine wpAnyIn_ready (rs:=[2]) (by kernel_rfl) (by simp) ?_;refine AllReadyIn.cons rfl (fun K hK=>?_) AllReadyIn.nil;go_simp;refine hK _ _ ?_;clear hK K;refine wpAnyIn_take (i:=4) (v:=.pointer (some (aD rb (ro+x)))) rfl rfl (by kernel_rfl) (by kernel_rfl) (by kernel_rfl) (fun _ _ _ h=>h) ⟨Or.inl ⟨by rfl,fun w=>by go_simp⟩,fun _=>rfl⟩ ?_;refine wpAnyIn_ready (rs:=[5]) (by kernel_rfl) (by simp) ?_;refine AllReadyIn.cons rfl (fun K hK=>?_) AllReadyIn.nil;go_simp;refine hK _ _ ?_;clear hK K;refine wpAnyIn_ready (rs:=[6]) (by kernel_rfl) (by simp) ?_;refine AllReadyIn.cons rfl (fun K hK=>?_) AllReadyIn.nil;go_simp;refine⟨trivial,rfl,callsIn_wide.2 ((hT _).mono ?_)⟩;rintro e Wt ⟨rfl,rfl⟩;refine hK _ _ ?_;clear hK K;refine wpAnyIn_ready (rs:=[7]) (by kernel_rfl) (by simp) ?_;refine AllReadyIn.cons rfl (fun K hK=>?_) AllReadyIn.nil;go_simp;refine hK _ _ ?_;clear hK K;refine wpAnyIn_done (by kernel_rfl) ?_ _;exact HFIN.out ⟨#[],[]⟩
  refine AllReadyIn.cons rfl (fun K hK=>?_) AllReadyIn.nil;go_simp;refine hK _ _ ?_;clear hK K;refine wpAnyIn_take (i:=4) (v:=.pointer (some (aD rb (ro+x)))) rfl rfl (by kernel_rfl) (by kernel_rfl) (by kernel_rfl) (fun _ _ _ h=>h) ⟨Or.inl ⟨by rfl,fun w=>by go_simp⟩,fun _=>rfl⟩ ?_;refine wpAnyIn_ready (rs:=[0,5]) (by kernel_rfl) (by simp) ?_;refine AllReadyIn.cons rfl (fun K hK=>?_) ?_
  ·skip;go_simp;refine hK _ _ ?_;clear hK K;refine wpAnyIn_ready (rs:=[5]) (by kernel_rfl) (by simp) ?_;refine AllReadyIn.cons rfl (fun K hK=>?_) AllReadyIn.nil;go_simp;refine hK _ _ ?_;clear hK K;refine wpAnyIn_ready (rs:=[6]) (by kernel_rfl) (by simp) ?_;refine AllReadyIn.cons rfl (fun K hK=>?_) AllReadyIn.nil;go_simp;refine⟨trivial,rfl,callsIn_wide.2 ((hT _).mono ?_)⟩;rintro e Wt ⟨rfl,rfl⟩;refine hK _ _ ?_;clear hK K;refine wpAnyIn_ready (rs:=[7]) (by kernel_rfl) (by simp) ?_;refine AllReadyIn.cons rfl (fun K hK=>?_) AllReadyIn.nil;go_simp;refine hK _ _ ?_;clear hK K;refine wpAnyIn_done (by kernel_rfl) ?_ _;exact HFIN.out ⟨#[],[]⟩
  refine AllReadyIn.cons rfl (fun K hK=>?_) AllReadyIn.nil;go_simp;refine hK _ _ ?_;clear hK K;refine wpAnyIn_ready (rs:=[0]) (by kernel_rfl) (by simp) ?_;refine AllReadyIn.cons rfl (fun K hK=>?_) AllReadyIn.nil;go_simp;refine hK _ _ ?_;clear hK K;refine wpAnyIn_ready (rs:=[6]) (by kernel_rfl) (by simp) ?_;refine AllReadyIn.cons rfl (fun K hK=>?_) AllReadyIn.nil;go_simp;refine⟨trivial,rfl,callsIn_wide.2 ((hT _).mono ?_)⟩;rintro e Wt ⟨rfl,rfl⟩;refine hK _ _ ?_;clear hK K;refine wpAnyIn_ready (rs:=[7]) (by kernel_rfl) (by simp) ?_;refine AllReadyIn.cons rfl (fun K hK=>?_) AllReadyIn.nil;go_simp;refine hK _ _ ?_;clear hK K;refine wpAnyIn_done (by kernel_rfl) ?_ _;exact HFIN.out ⟨#[],[]⟩
 case done=>
  rintro ys o' W2 hys hI hk2 hg2 hD;have hys':ys=SL:=by simpa [numEl] using hys
  subst hys';rw[HS0.out] at hI;have hcp:W2.cell? (aD w2.heap.size 0)=some (.int .u64 (S0:Int)):=hI.g.cell 0;have hb2:=hI.below;have hD':Hid _:=hD;have hlt3:Hid (w3.heap.size<W2.heap.size):=(Array.getElem?_eq_some_iff.1 hD).1;by_cases h0:S0=0
  ·have HRE0:Hid (R=0):=by show R=0; rw[HRE.out,if_pos h0]
   subst h0;clear HXS HYS HRE HSQ HCQ HP HR HRB HPB HX0 HY0 HG3
   gi_wp2
   refine⟨by simp,.inl ⟨_,_,rfl,run_takeDeferred hD,?_⟩⟩;refine⟨_,results_tmp rfl _ _ _,by rw[HRE0.out]; rfl,?_⟩;exact HK0.out.trans (((hb2.mono HK0.out.size)).trans ((Kept.putObj (s:=fun b=>b<w.heap.size) _ _ (by have:=HK0.out.size; have:=hz3.out; omega)).below (Nat.le_trans HK0.out.size hb2.size) (fun _ h=>h)))
  ·have HRE1:Hid (R=max (Y CL) 1):=by show R=_; rw[HRE.out,if_neg h0]
   have h0b:((S0:Int)==0)=false:=by rw[beq_eq_false_iff_ne]; omega
   obtain⟨W3,hW3⟩:∃ x,W2.alloc (.cells #[.int .u64 (S0:Int)] 37)=x:=⟨_,rfl⟩
   have hkW3:Below W2.heap.size W2 W3:=by rw[<- hW3]; exact bQ2 _ _
   have hgW3:Hid (GB W3 W2.heap.size 37 #[.int .u64 (S0:Int)]):=by rw[<- hW3]; exact bQ3 _ _
   have hzW3:Hid (W3.heap.size=W2.heap.size+1):=by rw[<- hW3]; show _=_; simp
   have c2:W3.cell? (aD w1.heap.size 2)=some (.int .u64 (pc:Int)):=cB hkW3 (cB hb2 G22.out);have HKW:Hid _:=hkW3;have HB2:Hid _:=hb2;clear h0 HXS HSQ HRE HR HRB HX0 HG3 hk2 hg2 hD hI hkW3 hb2
   gi_wp2
   clear c2 hcp hW3 h0b;refine wp_rangeB numEl (gf:=42) (s:=.int .u64 (pc:Int)) rfl (enters_of Tryz.func42 (by kernel_rfl) rfl) (HCQ.out W2) HKW.out rfl
    (fun pre o1 W=>BoxI W2 37 (Y pre) o1 W) (fun b=>b=W2.heap.size) ?_ ?_ ⟨by rw[HY0.out]; exact hgW3.out,HKW.out,fun _=>Iff.rfl⟩
    (fun x=>{ tmps:=#[.agg #[v0,v1,v2,v3,v4,v5,v6,v7,v8,v9,v10,v11,v12],.agg #[.int .i64 kind,.int .u64 (ps:Int),.int .u64 (pc:Int),od,.int .u64 (pz1:Int),.int .u64 (pz2:Int)],.slice ao pl cap,.pointer (some (aD w.heap.size 0)),.pointer (some (aD w1.heap.size 0)),undef,.int .u64 0,.pointer (some (aD w2.heap.size 0)),undef,.pointer (some (aD W2.heap.size 0)),.int .i64 (x:Int),.pointer (some (aD w1.heap.size 0)),.int .i64 kind,.bool false,undef,undef,undef,undef,.pointer (some (aD w1.heap.size 1)),.int .u64 (ps:Int),.func (.func 42) #[.int .u64 (ps:Int)] #[],undef,undef,undef,undef,undef,undef,undef,undef,.int .u64 (S0:Int),.bool false,.int .u64 (S0:Int),.pointer (some (aD w1.heap.size 2)),.int .u64 (pc:Int),.func (.func 42) #[.int .u64 (pc:Int)] #[],.int .i64 (x:Int),undef,undef,undef,undef,undef,undef,undef,undef,undef],defers:=[] }) ?assign2 ?body2 ?done2
   ·rintro b rfl;exact⟨Nat.le_refl _,by have:=hzW3.out; omega⟩
   ·intro pre o1 A B h hk;exact h.keep (by have:=hzW3.out; omega) hk
   case assign2=>
    intro l x W K hK;have he:numEl.enc x=.int .i64 (x:Int):=rfl
    gi_wp2
    exact hK
   case body2=>
    intro l pre x o1 W hI hpre hx hoff hsz;have hx':x<q.wh.length:=HCM.out x (prefix_mem (by simpa [numEl] using hpre));have hb2W:Below w2.heap.size w2 W:=HB2.out.trans (hI.below.mono HB2.out.size);have hbW:Below w.heap.size w W:=HK0.out.trans (hb2W.mono HK0.out.size);obtain⟨rb,ro,hra,hrc⟩:=NatsAt.get (NatsAt.below hbW HP.out) (i:=x) (by rw[HPL.out]; exact hx');have hrx:=hrc x (by rw[HPL.out]; exact hx');have hXn:Hid _:=HYS.out pre x hx';obtain⟨hr1,hrt⟩:=HPB.out x hx';have hXt:=HYT.out pre;have hcx:W.cell? (aD W2.heap.size 0)=some (.int .u64 (Y pre:Int)):=hI.g.cell 0;have hfx:=hI.g.frozen 0;have hc10:=cB hb2W G112.out;rw[hra] at hc10;have HI:Hid _:=hI;clear hrc hpre hx hoff hsz hI hbW hra hb2W;generalize PL.getD x 0=rn at *;have HFIN:Hid (∀ act,roundKeeps numEl (fun pre o1 W=>BoxI W2 37 (Y pre) o1 W) pre x W3.heap.size o1 W .normal act (W.drew.setCell (aD W2.heap.size 0) (.int .u64 (Y (pre++[x]):Int)))):=fun _=>⟨o1,HI.out.step.1,HI.out.step.2,fun b hb=>.inl hb⟩
    have HQ:Hid (Y pre<=18446744073709551615):=hXt;generalize Y (pre++[x])=Xn at *;generalize Y pre=Xp at *;have hq':((Xp:Int)).tdiv (rn:Int)=(Xn:Int):=by
     rw[hXn.out,Int.tdiv_eq_ediv_of_nonneg (by omega),Int.natCast_ediv]
    have hwn:IntKind.u64.wrap (Xn:Int)=(Xn:Int):=wrap_u64_nat (by have:=HQ.out; rw[hXn.out]; have:=Nat.div_le_self Xp rn; omega);have hrn:¬ rn=0:=by omega
    clear hXt hXn
    gi_wp2_with fail
    have hfol:Tryz.prog.follows .mixedOrders=true:=by kernel_rfl
    refine wpIn_region_any hfol (anyIn_round (noDefer_spec (by kernel_rfl)) _ _ _ _ ?_);change wpAnyIn _ _ _ _ _ _ _ _ _ (World.drew _);refine wpAnyIn_take (i:=1) (v:=.pointer (some (aD w.heap.size 12))) rfl rfl (by kernel_rfl) (by kernel_rfl) (by kernel_rfl) (fun _ _ _ h=>h) ⟨Or.inl ⟨by rfl,fun w=>by go_simp⟩,fun _=>rfl⟩ ?_;refine wpAnyIn_take (i:=3) (v:=.int .i64 (x:Int)) rfl rfl (by kernel_rfl) (by kernel_rfl) (by kernel_rfl) (fun _ _ _ h=>h) ⟨Or.inl ⟨by rfl,fun w=>by go_simp⟩,fun _=>rfl⟩ ?_;refine wpAnyIn_ready (rs:=[0,2]) (by kernel_rfl) (by simp) ?_;refine AllReadyIn.cons rfl (fun K hK=>?_) ?_
    ·skip;go_simp;refine hK _ _ ?_;clear hK K;refine wpAnyIn_ready (rs:=[2]) (by kernel_rfl) (by simp) ?_;refine AllReadyIn.cons rfl (fun K hK=>?_) AllReadyIn.nil;go_simp;refine hK _ _ ?_;clear hK K;refine wpAnyIn_take (i:=4) (v:=.pointer (some (aD rb (ro+x)))) rfl rfl (by kernel_rfl) (by kernel_rfl) (by kernel_rfl) (fun _ _ _ h=>h) ⟨Or.inl ⟨by rfl,fun w=>by go_simp⟩,fun _=>rfl⟩ ?_;refine wpAnyIn_ready (rs:=[5]) (by kernel_rfl) (by simp) ?_;refine AllReadyIn.cons rfl (fun K hK=>?_) AllReadyIn.nil;go_simp;refine hK _ _ ?_;clear hK K;refine wpAnyIn_ready (rs:=[6]) (by kernel_rfl) (by simp) ?_;refine AllReadyIn.cons rfl (fun K hK=>?_) AllReadyIn.nil;go_simp;refine hK _ _ ?_;clear hK K;refine wpAnyIn_ready (rs:=[7]) (by kernel_rfl) (by simp) ?_;refine AllReadyIn.cons rfl (fun K hK=>?_) AllReadyIn.nil;go_simp;refine hK _ _ ?_;clear hK K;refine wpAnyIn_done (by kernel_rfl) ?_ _;exact HFIN.out ⟨#[],[]⟩
    refine AllReadyIn.cons rfl (fun K hK=>?_) AllReadyIn.nil;go_simp;refine hK _ _ ?_;clear hK K;refine wpAnyIn_take (i:=4) (v:=.pointer (some (aD rb (ro+x)))) rfl rfl (by kernel_rfl) (by kernel_rfl) (by kernel_rfl) (fun _ _ _ h=>h) ⟨Or.inl ⟨by rfl,fun w=>by go_simp⟩,fun _=>rfl⟩ ?_;refine wpAnyIn_ready (rs:=[0,5]) (by kernel_rfl) (by simp) ?_;refine AllReadyIn.cons rfl (fun K hK=>?_) ?_
    ·skip;go_simp;refine hK _ _ ?_;clear hK K;refine wpAnyIn_ready (rs:=[5]) (by kernel_rfl) (by simp) ?_;refine AllReadyIn.cons rfl (fun K hK=>?_) AllReadyIn.nil;go_simp;refine hK _ _ ?_;clear hK K;refine wpAnyIn_ready (rs:=[6]) (by kernel_rfl) (by simp) ?_;refine AllReadyIn.cons rfl (fun K hK=>?_) AllReadyIn.nil;go_simp;refine hK _ _ ?_;clear hK K;refine wpAnyIn_ready (rs:=[7]) (by kernel_rfl) (by simp) ?_;refine AllReadyIn.cons rfl (fun K hK=>?_) AllReadyIn.nil;go_simp;refine hK _ _ ?_;clear hK K;refine wpAnyIn_done (by kernel_rfl) ?_ _;exact HFIN.out ⟨#[],[]⟩
    refine AllReadyIn.cons rfl (fun K hK=>?_) AllReadyIn.nil;go_simp;refine hK _ _ ?_;clear hK K;refine wpAnyIn_ready (rs:=[0]) (by kernel_rfl) (by simp) ?_;refine AllReadyIn.cons rfl (fun K hK=>?_) AllReadyIn.nil;go_simp;refine hK _ _ ?_;clear hK K;refine wpAnyIn_ready (rs:=[6]) (by kernel_rfl) (by simp) ?_;refine AllReadyIn.cons rfl (fun K hK=>?_) AllReadyIn.nil;go_simp;refine hK _ _ ?_;clear hK K;refine wpAnyIn_ready (rs:=[7]) (by kernel_rfl) (by simp) ?_;refine AllReadyIn.cons rfl (fun K hK=>?_) AllReadyIn.nil;go_simp;refine hK _ _ ?_;clear hK K;refine wpAnyIn_done (by kernel_rfl) ?_ _;exact HFIN.out ⟨#[],[]⟩
   case done2=>
    rintro ys o' W4 hys hI hk4 hg4 hD4;have hys':CL=ys:=by symm; simpa [numEl] using hys
    subst hys';have hcp:W4.cell? (aD W2.heap.size 0)=some (.int .u64 (Y CL:Int)):=hI.g.cell 0;have hb4:=hI.below;have hYt:=HYT.out CL;have HRE2:Hid _:=HRE1;generalize Y CL=yv at *;obtain⟨rv,hrv⟩:∃ rv,rv=max yv 1:=⟨_,rfl⟩
    have hmx:max (yv:Int) 1=(rv:Int):=by omega
    have hmx2:max (1:Int) (yv:Int)=(rv:Int):=by omega
    have hif:(if (yv:Int)<1 then 1 else (yv:Int))=(rv:Int):=by split <;> omega
    have hif2:(if 1<(yv:Int) then (yv:Int) else 1)=(rv:Int):=by split <;> omega
    have HRV:Hid (R=rv):=by show R=rv; rw[hrv]; exact HRE2.out
    have hDD:W4.heap[w3.heap.size]? = some (Obj.deferred (some [])):=(hb4.block _ hlt3.out).trans hD'.out;clear hrv HYS HCQ HP HPB HY0 HYT hk4 hg4
    gi_wp2
    refine⟨by simp,.inl ⟨_,_,rfl,run_takeDeferred hD4,?_⟩⟩;refine⟨by simp,.inl ⟨_,_,rfl,run_takeDeferred ((World.putObj_heap_other (by have:=hlt3.out; have:=hzW3.out; omega)).trans hDD),?_⟩⟩;refine⟨_,results_tmp rfl _ _ _,by rw[HRV.out]; rfl,?_⟩;have s0:=HK0.out.size;have s2:=HB2.out.size;have s3:=hz3.out;have s4:=hzW3.out;have s5:=hb4.size;have s6:=hlt3.out;refine HK0.out.trans (((HB2.out.mono s0)).trans ((hb4.mono (by omega)).trans (((Kept.putObj (s:=fun b=>b<w.heap.size) _ _ (by omega)).below (by omega) (fun _ h=>h)).trans ((Kept.putObj (s:=fun b=>b<w.heap.size) _ _ (by omega)).below (by rw[World.putObj_size]; omega) (fun _ h=>h)))))
open Go.RowKit Go.Scout
theorem sizeOf_out (f:FactsV) (ts:List TableD) (q:QueryV) (p:PartV) (ao:Option Addr) (cap:Nat) (ps:List PartV) (w:World) (hp:PartsAt w ao ps) (h0:0<ps.length) (hk:outK p.kind=true) :
  Calls Tryz.prog 118 #[.agg (f.cells ts q),.agg p.cells,.slice ao ps.length cap] w fun e w'=>e=.returned (.int .u64 (((ps.getD 0 pvz).size:Nat):Int))/\Below w.heap.size w w':=by
 obtain⟨⟨pb,po,rfl,c0,c1,c2,c3,c4,c5⟩,-⟩:=hp.2 0 h0;rw[Nat.zero_mul,Nat.add_zero] at c4;have hpl:=hp.1;have hOK:=fun x=>outK_any p.kind x
 rw[hk] at hOK;generalize f.cells ts q=FC at *;obtain⟨w1,hw1,hk1,hg1⟩:=newB w FC 79;obtain⟨w2,hw2,hk2,hg2⟩:=newB w1 p.cells 92;have hc1:=hk2;have hc0:Below w.heap.size w w2:=bQ1 hk1 hc1;have gg1:GB w2 w.heap.size 79 FC:=hg1.of (hc1.block _ hg1.lt);have gg2:=hg2;have g2_0:w2.cell? (aD w1.heap.size 0)=some (.int .i64 p.kind):=gg2.cell 0;have d4:=cB hc0 c4;have HC:Hid _:=hc0;generalize p.kind=k at *;generalize (ps.getD 0 pvz).size=z at *;generalize p.cells=PC at *;clear hk hp c0 c1 c2 c3 c4 c5 hk1 hk2 hg1 hg2 gg1 gg2 hc0 hc1;go_enter Tryz.func118,Tryz.ntmps118;go_wp2_with fail;refine (hOK _).mono ?_;rintro e w3 ⟨rfl,rfl⟩;go_wp2;go_ret;exact⟨rfl,HC.out⟩
theorem sizeOf_any (f:FactsV) (ts:List TableD) (q:QueryV) (p:PartV) (ao:Option Addr) (cap:Nat) (ps:List PartV) (w:World) (ok:Ok ts q) (hf:f.At ts q w) (hp:PartsAt w ao ps) (hs:p.sources<2 ^ q.src.xs.length) (hc:p.clauses<2 ^ q.wh.length) (h0:outK p.kind=true->0<ps.length) :
  Calls Tryz.prog 118 #[.agg (f.cells ts q),.agg p.cells,.slice ao ps.length cap] w fun e w'=>e=.returned (.int .u64 (((if outK p.kind=true then (ps.getD 0 pvz).size else sizeP ts q p.sources p.clauses):Nat):Int))/\Below w.heap.size w w':=by
 cases hk:outK p.kind with
 | true =>
  rw[if_pos rfl];exact sizeOf_out f ts q p ao cap ps w hp (h0 hk) hk
 | false =>
  rw[if_neg (by simp)];exact sizeOf_rest f ts q p ao ps.length cap w ok hf hs hc hk
theorem ownSources_any (n:NodeV) (w:World) (h:n.kind=1->0<=n.source/\n.source<64) :
  Calls Tryz.prog 117 #[.agg n.cells] w fun e w'=>e=.returned (.int .u64 (((if n.kind=1 then 2 ^ n.source.toNat else 0):Nat):Int))/\Below w.heap.size w w':=by
 obtain⟨w1,hw1,hk1,hg1⟩:=newB w n.cells 61;have hc0:Below w.heap.size w w1:=hk1;have gg1:=hg1;have g1_0:w1.cell? (aD w.heap.size 0)=some (.int .i64 n.kind):=gg1.cell 0;have g1_3:w1.cell? (aD w.heap.size 3)=some (.int .i64 n.source):=gg1.cell 3;have HC:Hid _:=hc0;clear hg1 gg1 hk1 hc0;generalize n.cells=NC at *;by_cases k1:n.kind=1
 ·obtain⟨h0,h1⟩:=h k1;obtain⟨s,hs⟩:=Int.eq_ofNat_of_zero_le h0;rw[if_pos k1];have hS:=setOf_one w1.heap.size s (w1.alloc (.cells #[.int .i64 (s:Int)] 3)) (by simp) (by omega);have e2:2 ^ n.source.toNat=2 ^ s:=by rw[hs]; rfl
  rw[e2];obtain⟨R,hR2⟩:∃ R,R=2 ^ s:=⟨_,rfl⟩
  rw[<- hR2] at hS ⊢;clear e2 hR2;rw[hs] at g1_3;rw[k1] at g1_0;have HB:Hid (Below w.heap.size w (w1.alloc (.cells #[.int .i64 (s:Int)] 3))):=HC.out.trans ((bQ2 _ _).mono HC.out.size);clear h hs k1 h0 h1;go_enter Tryz.func117,Tryz.ntmps117;go_wp2_with fail;refine hS.mono ?_;rintro e w3 ⟨rfl,rfl⟩;go_wp2;go_ret;exact⟨rfl,HB.out⟩
 ·rw[if_neg k1];have kb:(n.kind==1)=false:=by simp[k1]
  generalize n.kind=k at *;go_enter Tryz.func117,Tryz.ntmps117;go_wp2;go_ret;exact⟨rfl,HC.out⟩
end Go.Proofs.YtlpbelhfpoilpabGreatDoor
namespace Go.Scout
open Go.RowKit
theorem results_cell1 {fn:Func} {p:Tmp} {ty:TypeId} (h:fn.results=#[.cell p ty]) (tmps:Array Value) (P:Program) (w:World) :
  (results fn tmps).run P w=((asAddr (tmps.getD p undef)).run P w).andThen fun a w₁=>(loadVar ty a).run P w₁:=by
 simp only[results,h];simp[Sem.run_bind,Result.andThen]
theorem ret_cell1 {fn:Func} {p:Tmp} {ty:TypeId} (h:fn.results=#[.cell p ty]) {tmps:Array Value} {P:Program} {w:World} {B:Nat} {v:Value} (hp:tmps.getD p undef=.pointer (some (aD B 0))) (hl:(loadVar ty (aD B 0)).run P w=.ok v w) :
  (results fn tmps).run P w=.ok v w:=by
 rw[results_cell1 h,hp];simp[go_sem] at hl ⊢;simp[hl]
theorem concern_take (ts:List TableD) (q:QueryV) {cs:List CondD} {k:Nat} (hk:k<cs.length):setN (srcL ts q (columnsN (cs.take (k+1))))=setN (srcL ts q (columnsN (cs.take k)))|||setN (srcL ts q (condCols (cs.getD k cz))):=by
 rw[columnsN_snoc hk];unfold srcL;rw[List.map_append,setN_append]
theorem columns_take {cs:List CondD} {k:Nat} {c:Int} (h:c∈columnsN (cs.take k)):c∈columnsN cs:=by
 obtain⟨x,hx,hc⟩:=List.mem_flatMap.1 h;exact List.mem_flatMap.2 ⟨x,List.mem_of_mem_take hx,hc⟩
end Go.Scout
namespace Go.Proofs.YtlpbelhfpoilpabGreatDoor
open Go.RowKit Go.Scout
theorem concerns_any (f:FactsV) (ts:List TableD) (q:QueryV) (ca:Option Addr) (cc:Nat) (cs:List CondD) (w:World) (ok:Ok ts q) (hf:ColsAt w f.ca (colsN ts q)) (hx:CondsAt w ca cs) (hcol:ColOk ts q (columnsN cs)) :
  Calls Tryz.prog 46 #[.agg (f.cells ts q),.agg #[.slice ca cs.length cc]] w fun e w'=>e=.returned (.int .u64 ((setN (concernN ts q.src.xs cs):Nat):Int))/\Below w.heap.size w w':=by
 obtain⟨v0,v1,v2,v3,v4,v5,v6,v7,v8,v9,v10,v11,v12,hFC,-⟩:=factsCells f ts q;obtain⟨w1,hw1,hk1,hg1⟩:=newB w ((f.cells ts q)) 79;obtain⟨w2,hw2,hk2,hg2⟩:=newB w1 #[.slice ca cs.length cc] 67;have hc1:=hk2;have hc0:Below w.heap.size w w2:=bQ1 hk1 hc1;have gg1:GB w2 w.heap.size 79 (f.cells ts q):=hg1.of (hc1.block _ hg1.lt);have gg2:=hg2;have g2_0:w2.cell? (aD w1.heap.size 0)=some (.slice ca cs.length cc):=gg2.cell 0;have g1_0:w2.cell? (aD w.heap.size 0)=some v0:=by rw[hFC] at gg1; exact gg1.cell 0
 have g1_1:w2.cell? (aD w.heap.size 1)=some v1:=by rw[hFC] at gg1; exact gg1.cell 1
 have g1_2:w2.cell? (aD w.heap.size 2)=some v2:=by rw[hFC] at gg1; exact gg1.cell 2
 have g1_3:w2.cell? (aD w.heap.size 3)=some v3:=by rw[hFC] at gg1; exact gg1.cell 3
 have g1_4:w2.cell? (aD w.heap.size 4)=some v4:=by rw[hFC] at gg1; exact gg1.cell 4
 have g1_5:w2.cell? (aD w.heap.size 5)=some v5:=by rw[hFC] at gg1; exact gg1.cell 5
 have g1_6:w2.cell? (aD w.heap.size 6)=some v6:=by rw[hFC] at gg1; exact gg1.cell 6
 have g1_7:w2.cell? (aD w.heap.size 7)=some v7:=by rw[hFC] at gg1; exact gg1.cell 7
 have g1_8:w2.cell? (aD w.heap.size 8)=some v8:=by rw[hFC] at gg1; exact gg1.cell 8
 have g1_9:w2.cell? (aD w.heap.size 9)=some v9:=by rw[hFC] at gg1; exact gg1.cell 9
 have g1_10:w2.cell? (aD w.heap.size 10)=some v10:=by rw[hFC] at gg1; exact gg1.cell 10
 have g1_11:w2.cell? (aD w.heap.size 11)=some v11:=by rw[hFC] at gg1; exact gg1.cell 11
 have g1_12:w2.cell? (aD w.heap.size 12)=some v12:=by rw[hFC] at gg1; exact gg1.cell 12
 have HCX:Hid (∀ k,k<cs.length->∃ b off,ca=some (aD b off)/\w2.cell? (aD b (off+k*5))=some (.bool (cs.getD k cz).not)/\w2.cell? (aD b (off+k*5+1))=some (.int .i64 (cs.getD k cz).op)/\w2.cell? (aD b (off+k*5+2))=some (.int .i64 (cs.getD k cz).left)/\w2.cell? (aD b (off+k*5+3))=some (.bool (cs.getD k cz).const)/\w2.cell? (aD b (off+k*5+4))=some (.int .i64 (cs.getD k cz).right)):=(hx.below hc0).2;have HSO:Hid (∀ x xa xc k,k<cs.length->Below w2.heap.size w2 x->IntsAt x xa (condCols (cs.getD k cz))->Calls Tryz.prog 68 #[.agg (f.cells ts q),.slice xa (condCols (cs.getD k cz)).length xc] x fun e w'=>e=.returned (.int .u64 ((setN (srcL ts q (condCols (cs.getD k cz))):Nat):Int))/\Below x.heap.size x w'):=
  fun x xa xc k hk hb h=>sourcesOf_any f ts q xa xc _ x ok (hf.below (bQ1 hc0 hb)) h (fun c hc=>hcol c (List.mem_flatMap.2 ⟨_,getD_memR hk,hc⟩))
 have HCC:Hid (∀ x c,_):=fun x c=>condColumns_any c x
 have HST:Hid (∀ k,k<cs.length->setN (srcL ts q (columnsN (cs.take (k+1))))=setN (srcL ts q (columnsN (cs.take k)))|||setN (srcL ts q (condCols (cs.getD k cz)))):=fun k hk=>concern_take ts q hk
 have HSL:Hid (∀ k,setN (srcL ts q (columnsN (cs.take k)))<18446744073709551616):=fun k=>(srcL_small ok (fun c hc=>hcol c (columns_take hc))).lt ok.small
 have HS1:Hid (∀ k,k<cs.length->setN (srcL ts q (condCols (cs.getD k cz)))<18446744073709551616):=fun k hk=>(srcL_small ok (fun c hc=>hcol c (List.mem_flatMap.2 ⟨_,getD_memR hk,hc⟩))).lt ok.small
 have HSE:Hid (setN (srcL ts q (columnsN (cs.take cs.length)))=setN (concernN ts q.src.xs cs)):=by show _=_; rw[List.take_length]; rfl
 have HS0:Hid (setN (srcL ts q (columnsN (cs.take 0)))=0):=rfl;have hcl:=hx.1;have HC:Hid _:=hc0;obtain⟨ST,hST⟩:∃ ST:Nat->Nat,ST=fun k=>setN (srcL ts q (columnsN (cs.take k))):=⟨_,rfl⟩
 obtain⟨SK,hSK⟩:∃ SK:CondD->Nat,SK=fun c=>setN (srcL ts q (condCols c)):=⟨_,rfl⟩
 have HST':Hid (∀ k,k<cs.length->ST (k+1)=ST k|||SK (cs.getD k cz)):=by rw[hST,hSK]; exact HST.out
 have HSL':Hid (∀ k,ST k<18446744073709551616):=by rw[hST]; exact HSL.out
 have HS1':Hid (∀ k,k<cs.length->SK (cs.getD k cz)<18446744073709551616):=by rw[hSK]; exact HS1.out
 have HSE':Hid (ST cs.length=setN (concernN ts q.src.xs cs)):=by rw[hST]; exact HSE.out
 have HS0':Hid (ST 0=0):=by rw[hST]; exact HS0.out
 have HSO':Hid (∀ x xa xc k,k<cs.length->Below w2.heap.size w2 x->IntsAt x xa (condCols (cs.getD k cz))->Calls Tryz.prog 68 #[.agg #[v0,v1,v2,v3,v4,v5,v6,v7,v8,v9,v10,v11,v12],.slice xa (condCols (cs.getD k cz)).length xc] x fun e w'=>e=.returned (.int .u64 ((SK (cs.getD k cz):Nat):Int))/\Below x.heap.size x w'):=by rw[hSK,<- hFC]; exact HSO.out
 rw[hFC] at hw1 ⊢;generalize setN (concernN ts q.src.xs cs)=R at *;clear hST hSK HST HSL HS1 HSE HS0 HSO hFC hg1 hg2 gg1 gg2 hk1 hk2 hc0 hc1 hf hx hcol ok;go_enter Tryz.func46,Tryz.ntmps46;go_wp2;clear hw1 hw2;go_loopw [5,11] (fun sv iv wr=>∃ k:Nat,k<=cs.length/\iv=.int .i64 k/\(∃ s:Nat,sv=.int .u64 (s:Int)/\Hid (s=ST k))/\Below w2.heap.size w2 wr) (fun _ iv _=>cs.length-(intOf iv).toNat)
 case atStart=>exact⟨0,Nat.zero_le _,rfl,⟨0,rfl,HS0'.out.symm⟩,Below.refl _ _⟩
 case round=>
  obtain⟨k,hk,rfl,⟨s,rfl,hs⟩,hbr⟩:=hrel;by_cases hlt:k<cs.length
  ·obtain⟨cb,co,rfl,c0,c1,c2,c3,c4⟩:=HCX.out k hlt;have d0:=cB hbr c0;have d1:=cB hbr c1;have d2:=cB hbr c2;have d3:=cB hbr c3;have d4:=cB hbr c4;have HT:Hid _:=HST'.out k hlt;have hsl:s<18446744073709551616:=by rw[hs.out]; exact HSL'.out k
   have hs1:=HS1'.out k hlt;have HSOk:Hid (∀ x xa xc,_->_->_):=fun x xa xc hb h=>HSO'.out x xa xc k hlt hb h
   rw[<- hs.out] at HT;clear c0 c1 c2 c3 c4 hs;generalize cs.getD k cz=c at *;have hCC:=fun x=>HCC.out x c
   generalize SK c=m at *;generalize condCols c=CC at *;obtain⟨wb,hwb,hkb,hgb⟩:=newB wr #[.bool c.not,.int .i64 c.op,.int .i64 c.left,.bool c.const,.int .i64 c.right] 63;have b0:wb.cell? (aD wr.heap.size 0)=some (.bool c.not):=hgb.cell 0;have b1:wb.cell? (aD wr.heap.size 1)=some (.int .i64 c.op):=hgb.cell 1;have b2:wb.cell? (aD wr.heap.size 2)=some (.int .i64 c.left):=hgb.cell 2;have b3:wb.cell? (aD wr.heap.size 3)=some (.bool c.const):=hgb.cell 3;have b4:wb.cell? (aD wr.heap.size 4)=some (.int .i64 c.right):=hgb.cell 4;have hbw:=bQ1 hbr hkb;have j0:=cB hbw g1_0;have j1:=cB hbw g1_1;have j2:=cB hbw g1_2;have j3:=cB hbw g1_3;have j4:=cB hbw g1_4;have j5:=cB hbw g1_5;have j6:=cB hbw g1_6;have j7:=cB hbw g1_7;have j8:=cB hbw g1_8;have j9:=cB hbw g1_9;have j10:=cB hbw g1_10;have j11:=cB hbw g1_11;have j12:=cB hbw g1_12;have HBW:Hid _:=hbw;clear hgb hkb hbr hbw;obtain⟨cnot,cop,cleft,cconst,cright⟩:=c;unfold CondD.val at *;simp only at *;go_wp2;clear hwb;refine wp_region_held_drew (S:=fun x=>Below wb.heap.size wb x) (by kernel_rfl) ((Below.refl _ _).drew) (fun hS=>?_);refine wT 0 (.int .u64 (s:Int)) hS (fun x hx=>?_) ?_
   ·go_simp
   refine wT 1 (.agg #[v0,v1,v2,v3,v4,v5,v6,v7,v8,v9,v10,v11,v12]) hS (fun x hx=>?_) ?_
   ·have e0:=cB hx j0;have e1:=cB hx j1;have e2:=cB hx j2;have e3:=cB hx j3;have e4:=cB hx j4;have e5:=cB hx j5;have e6:=cB hx j6;have e7:=cB hx j7;have e8:=cB hx j8;have e9:=cB hx j9;have e10:=cB hx j10;have e11:=cB hx j11;have e12:=cB hx j12;go_simp
   refine wT 2 (.agg #[.bool cnot,.int .i64 cop,.int .i64 cleft,.bool cconst,.int .i64 cright]) hS (fun x hx=>?_) ?_
   ·have e0:=cB hx b0;have e1:=cB hx b1;have e2:=cB hx b2;have e3:=cB hx b3;have e4:=cB hx b4;go_simp
   refine wR 3 fun K hK=>?_
   go_simp;refine Calls.mono (hCC _) ?_;rintro e w3 ⟨b,rfl,hcc,hb3⟩;refine hK.out _ _ (hS.trans (hb3.mono hS.size)) (fun hS=>?_);clear hK K;refine wR 4 fun K hK=>?_
   go_simp;refine Calls.mono (HSOk.out _ _ _ (bQ1 HBW.out hS) hcc) ?_;rintro e w4 ⟨rfl,hb4⟩;refine hK.out _ _ (hS.trans (hb4.mono hS.size)) (fun hS=>?_);clear hK K;refine wR 5 fun K hK=>?_
   go_simp;refine hK.out _ _ (hS.trans (bQ2 _ _ |>.mono hS.size)) (fun hS=>?_);clear hK K;refine wR 6 fun K hK=>?_
   go_simp;refine Calls.mono (union_two w4.heap.size s m _ (by simp) (by simp) hsl hs1) ?_;rintro e w5 ⟨rfl,rfl⟩;refine hK.out _ _ (hS) (fun hS=>?_);clear hK K;refine wR 7 fun K hK=>?_
   go_simp;refine hK.out _ _ hS (fun hS=>?_);clear hK K;refine wpAnyH_done (by kernel_rfl) ?_ _
   try simp only[pA,sB,sC]
   have HBN:Hid _:=bQ1 HBW.out hS;clear hS hb3 hb4 hcc;go_wp2;go_roundw
   case rel=>exact⟨k+1,by omega,by go_num,⟨s|||m,rfl,HT.out.symm⟩,HBN.out⟩
   case measure=>simp[intOf]; omega
  ·obtain rfl:k=cs.length:=by omega
   have HV:Hid (s=R):=hs.out.trans HSE'.out;have HB:Hid _:=bQ1 HC.out hbr;clear hs hbr;go_wp2;go_ret;exact⟨ret_int (by rw[HV.out]),HB.out⟩
end Go.Proofs.YtlpbelhfpoilpabGreatDoor
namespace Go.Scout
open Go.RowKit
def kindsF (ts:List TableD) (q:QueryV) (l:List Int):Nat:=(l.map fun c=>(kindsN ts q.src.xs c).toNat).foldl max 0
theorem kindsF_take (ts:List TableD) (q:QueryV) {l:List Int} {k:Nat} (hk:k<l.length):kindsF ts q (l.take (k+1))=max (kindsF ts q (l.take k)) (kindsN ts q.src.xs (l.getD k 0)).toNat:=by
 have e:l.getD k 0=l[k]:=by simp[List.getD,hk]
 unfold kindsF;rw[List.take_succ_eq_append_getElem hk,List.map_append,List.foldl_append,e];rfl
theorem parts_cols (ts:List TableD) (q:QueryV) {cs:List CondD} (h1:¬ 1<cs.length) (h0:0<cs.length) (hn:(cs.getD 0 cz).not=false) (h2:(cs.getD 0 cz).op≠1) (h3:(cs.getD 0 cz).op≠2):partsN ts q.src.xs cs=kindsF ts q (condCols (cs.getD 0 cz)):=by
 unfold partsN kindsF condCols;rw[if_neg (by rw[hn]; rintro (h | h); exact h (by omega); cases h),if_neg h2,if_neg h3]
 cases hc:(cs.getD 0 cz).const with
 | true => rw[if_pos rfl,if_neg (by simp)]; simp
 | false => rw[if_neg (by simp),if_pos ⟨h3,rfl⟩]; simp
theorem kindsF_le {ts:List TableD} {q:QueryV} (ok:Ok ts q) {l:List Int} (h:ColOk ts q l) (k:Nat):kindsF ts q (l.take k)<=1000000:=by
 induction k with
 | zero => simp[kindsF]
 | succ k ih =>
  by_cases hk:k<l.length
  ·rw[kindsF_take ts q hk];obtain⟨h0,h1⟩:=h _ (getD_memR hk (d:=0));have:=(kinds_bd ok.cat ok.src h0 h1).2;omega
  ·rw[List.take_of_length_le (by omega)];rw[List.take_of_length_le (by omega)] at ih;exact ih
end Go.Scout
namespace Go.Proofs.YtlpbelhfpoilpabGreatDoor
open Go.RowKit Go.Scout
theorem partsF_any (f:FactsV) (ts:List TableD) (q:QueryV) (ca:Option Addr) (cc:Nat) (cs:List CondD) (w:World) (ok:Ok ts q) (hf:ColsAt w f.ca (colsN ts q)) (hx:CondsAt w ca cs) (h0:0<cs.length) (hcol:ColOk ts q (columnsN cs)) :
  Calls Tryz.prog 47 #[.agg (f.cells ts q),.agg #[.slice ca cs.length cc]] w fun e w'=>e=.returned (.int .u64 ((partsN ts q.src.xs cs:Nat):Int))/\Below w.heap.size w w':=by
 obtain⟨cb,co,rfl,c0,c1,c2,c3,c4⟩:=hx.2 0 h0;have hcl:=hx.1;rw[Nat.zero_mul,Nat.add_zero] at c0 c1 c2 c3 c4;have hcol0:ColOk ts q (condCols (cs.getD 0 cz)):=fun c hc=>hcol c (List.mem_flatMap.2 ⟨_,getD_memR h0,hc⟩)
 have HPC:Hid _:=@parts_cols ts q cs;have HPN:Hid (partsN ts q.src.xs cs=if cs.length≠1∨(cs.getD 0 cz).not=true then 2 else if (cs.getD 0 cz).op=1 then 3 else if (cs.getD 0 cz).op=2 then 10 else partsN ts q.src.xs cs):=by
  show _=_
  unfold partsN
  repeat' split
  all_goals rfl
 generalize partsN ts q.src.xs cs=R at *;generalize cs.getD 0 cz=c at *;obtain⟨not,op,left,const,right⟩:=c;simp only at *;obtain⟨w1,hw1,hk1,hg1⟩:=newB w ((f.cells ts q)) 79;obtain⟨w2,hw2,hk2,hg2⟩:=newB w1 #[.slice (some (aD cb co)) cs.length cc] 67;obtain⟨w3,hw3,hk3,hg3⟩:=newB w2 #[.bool not,.int .i64 op,.int .i64 left,.bool const,.int .i64 right] 63;have hc2:=bQ1 hk1 hk2;have hc3:=bQ1 hc2 hk3;have hc13:=bQ1 hk2 hk3;have d0:=cB hc2 c0;have d1:=cB hc2 c1;have d2:=cB hc2 c2;have d3:=cB hc2 c3;have d4:=cB hc2 c4;have m0:w2.cell? (aD w1.heap.size 0)=some (.slice (some (aD cb co)) cs.length cc):=hg2.cell 0;have m0':=cB hk3 m0;have b0:w3.cell? (aD w2.heap.size 0)=some (.bool not):=hg3.cell 0;have b1:w3.cell? (aD w2.heap.size 1)=some (.int .i64 op):=hg3.cell 1;have b2:w3.cell? (aD w2.heap.size 2)=some (.int .i64 left):=hg3.cell 2;have b3:w3.cell? (aD w2.heap.size 3)=some (.bool const):=hg3.cell 3;have b4:w3.cell? (aD w2.heap.size 4)=some (.int .i64 right):=hg3.cell 4;have q7:w1.cell? (aD w.heap.size 7)=some (.slice f.ca (colsN ts q).length f.cc):=hg1.cell 7;have q7':=cB hc13 q7;have HC:Hid _:=hc3;have HCO:Hid _:=hf.below hc3;have hcll:=hf.1;have hCC:=condColumns_any ⟨not,op,left,const,right⟩ w3;unfold CondD.val at hCC;simp only at hCC;have HXC:Hid (∀ k,k<(condCols ⟨not,op,left,const,right⟩).length->∃ n kd:Nat,(condCols ⟨not,op,left,const,right⟩).getD k 0=n/\n<(colsN ts q).length/\((colsN ts q).getD n (0,0)).2=(kd:Int)/\kd=(kindsN ts q.src.xs ((condCols ⟨not,op,left,const,right⟩).getD k 0)).toNat/\kd<=1000000):=fun k hk=>by
  obtain⟨h0,h1⟩:=hcol0 _ (getD_memR hk (d:=0));have h2:=colsN_len ok;have h3:=kinds_bd ok.cat ok.src h0 h1;refine⟨((condCols ⟨not,op,left,const,right⟩).getD k 0).toNat,(kindsN ts q.src.xs ((condCols ⟨not,op,left,const,right⟩).getD k 0)).toNat,by omega,by omega,?_,rfl,by omega⟩;have e:((colsN ts q).getD ((condCols ⟨not,op,left,const,right⟩).getD k 0).toNat (0,0)).2=kindsN ts q.src.xs ((condCols ⟨not,op,left,const,right⟩).getD k 0):=rfl;rw[e];omega
 have HKT:Hid (∀ k,k<(condCols ⟨not,op,left,const,right⟩).length->kindsF ts q ((condCols ⟨not,op,left,const,right⟩).take (k+1))=max (kindsF ts q ((condCols ⟨not,op,left,const,right⟩).take k)) (kindsN ts q.src.xs ((condCols ⟨not,op,left,const,right⟩).getD k 0)).toNat):=fun k hk=>kindsF_take ts q hk
 have HKL:Hid (∀ k,kindsF ts q ((condCols ⟨not,op,left,const,right⟩).take k)<=1000000):=fun k=>kindsF_le ok hcol0 k
 have HKE:Hid (kindsF ts q ((condCols ⟨not,op,left,const,right⟩).take (condCols ⟨not,op,left,const,right⟩).length)=kindsF ts q (condCols ⟨not,op,left,const,right⟩)):=by show _=_; rw[List.take_length]
 have HK0:Hid (kindsF ts q ((condCols ⟨not,op,left,const,right⟩).take 0)=0):=rfl;have HCL2:Hid ((condCols ⟨not,op,left,const,right⟩).length<=2):=condCols_len _;generalize condCols ⟨not,op,left,const,right⟩=CC at *;generalize f.cells ts q=FC at *;obtain⟨KT,hKT⟩:∃ KT:Nat->Nat,KT=fun k=>kindsF ts q (CC.take k):=⟨_,rfl⟩
 have HKT':Hid (∀ k,k<CC.length->KT (k+1)=max (KT k) (kindsN ts q.src.xs (CC.getD k 0)).toNat):=by rw[hKT]; exact HKT.out
 have HKL':Hid (∀ k,KT k<=1000000):=by rw[hKT]; exact HKL.out
 have HKE':Hid (KT CC.length=kindsF ts q CC):=by rw[hKT]; exact HKE.out
 have HK0':Hid (KT 0=0):=by rw[hKT]; exact HK0.out
 clear hKT HKT HKL HKE HK0 c0 c1 c2 c3 c4 hk1 hk2 hk3 hc2 hc3 hc13 hg1 hg2 hg3 hf hx hcol hcol0 ok;by_cases h1:1<cs.length
 ·have HV:Hid (R=2):=by show _=_; rw[HPN.out,if_pos (.inl (by omega))]
  clear HPN HPC HXC HKT' HKL' HKE' HK0' HCO hCC;go_enter Tryz.func47,Tryz.ntmps47;go_wp2;go_ret;exact⟨ret_int (by rw[HV.out]; rfl),HC.out⟩
 cases not with
 | true =>
  have HV:Hid (R=2):=by show _=_; rw[HPN.out,if_pos (.inr rfl)]
  clear HPN HPC HXC HKT' HKL' HKE' HK0' HCO hCC;go_enter Tryz.func47,Tryz.ntmps47;go_wp2;go_ret;exact⟨ret_int (by rw[HV.out]; rfl),HC.out⟩
 | false =>
  have hn1:¬ (cs.length≠1∨false=true):=by rintro (h | h); exact h (by omega); cases h
  by_cases o1:op=1
  ·have HV:Hid (R=3):=by show _=_; rw[HPN.out,if_neg hn1,if_pos o1]
   subst o1;clear HPN HPC HXC HKT' HKL' HKE' HK0' HCO hCC hn1;go_enter Tryz.func47,Tryz.ntmps47;go_wp2;go_ret;exact⟨ret_int (by rw[HV.out]; rfl),HC.out⟩
  by_cases o2:op=2
  ·have HV:Hid (R=10):=by show _=_; rw[HPN.out,if_neg hn1,if_neg o1,if_pos o2]
   subst o2;clear HPN HPC HXC HKT' HKL' HKE' HK0' HCO hCC hn1;go_enter Tryz.func47,Tryz.ntmps47;go_wp2;go_ret;exact⟨ret_int (by rw[HV.out]; rfl),HC.out⟩
  have HV:Hid (R=kindsF ts q CC):=HPC.out h1 h0 rfl o1 o2;have kb1:(op==1)=false:=by simp[o1]
  have kb2:(op==2)=false:=by simp[o2]
  rw[<- HKE'.out] at HV;clear HPN HPC hn1 o1 o2 HKE';generalize kindsN ts q.src.xs=KN at *;generalize colsN ts q=CS at *;go_enter Tryz.func47,Tryz.ntmps47;go_wp2_with fail;refine hCC.mono ?_;clear hCC hw1 hw2 hw3;rintro e w4 ⟨xb,rfl,hxi,hb4⟩;have q7'':=cB hb4 q7';have HC4:Hid _:=bQ1 HC.out hb4;have HCO4:Hid (ColsAt w4 f.ca CS):=ColsAt.below hb4 HCO.out;have HXI:Hid _:=hxi;have hxl:=HCL2.out;clear hb4 hxi HCO HC m0 m0' b0 b1 b2 b3 b4 q7 q7' d0 d1 d2 d3 d4;go_wp2;go_loop [6,30] (fun sv iv=>∃ k:Nat,k<=CC.length/\iv=.int .i64 k/\(∃ s:Nat,sv=.int .u64 (s:Int)/\Hid (s=KT k))) (fun _ iv=>CC.length-(intOf iv).toNat)
  case atStart=>exact⟨0,Nat.zero_le _,rfl,⟨0,rfl,HK0'.out.symm⟩⟩
  case round=>
   obtain⟨k,hk,rfl,⟨s,rfl,hs⟩⟩:=hrel;by_cases hlt:k<CC.length
   ·obtain⟨xb',xo,e,hxc⟩:=IntsAt.get HXI.out hlt
    cases e
    have hck:=hxc k hlt;obtain⟨n,kd,hn,hnl,hcn,hkd,hkl⟩:=HXC.out k hlt;have HT:Hid _:=HKT'.out k hlt;have hsl:s<=1000000:=by rw[hs.out]; exact HKL'.out k
    obtain⟨yb,yo,hca,_,y1⟩:=(show ColsAt w4 f.ca CS from HCO4.out).2 n hnl;rw[hca] at q7'';rw[hn,Nat.zero_add] at hck;rw[hcn] at y1;rw[<- hs.out,<- hkd] at HT;clear hxc hca hcn hs hkd hn;generalize KN (CC.getD k 0)=kk at *;have hmx:max (s:Int) (kd:Int)=((max s kd:Nat):Int):=by omega
    have hif:(if (s:Int)<(kd:Int) then (kd:Int) else (s:Int))=((max s kd:Nat):Int):=by split <;> omega
    have hif2:(if (kd:Int)<(s:Int) then (s:Int) else (kd:Int))=((max s kd:Nat):Int):=by split <;> omega
    go_wp2;go_round
    case rel=>exact⟨k+1,by omega,by go_num,⟨max s kd,rfl,HT.out.symm⟩⟩
    case measure=>simp[intOf]; omega
   ·obtain rfl:k=CC.length:=by omega
    have HV2:Hid (s=R):=by show _=_; rw[hs.out,HV.out]
    clear hs HV;go_wp2;go_ret;exact⟨ret_int (by rw[HV2.out]),HC4.out⟩
end Go.Proofs.YtlpbelhfpoilpabGreatDoor
