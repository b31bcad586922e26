import Derived.Test.YtlpbelhfpoilpaaGreatDoorC06
import Derived.Test.YtlpbelhfpoilpaaGreatDoorC08
import Derived.Test.YtlpbelhfpoilpaaGreatDoorC13
import Derived.Test.YtlpbelhfpoilpaaGreatDoorC15
import Derived.Test.YtlpbelhfpoilpaaGreatDoorC16
import Derived.Test.YtlpbelhfpoilpaaGreatDoorC25
set_option linter.all false
set_option maxRecDepth 100000
set_option maxHeartbeats 16000000
namespace Go.Scout
open Go.RowKit
def riseTo (s k:Nat):List Nat:=(List.range k).filter fun i=>s.testBit i
theorem riseTo_succ (s k:Nat):riseTo s (k+1)=riseTo s k++if s.testBit k=true then [k] else []:=by
 unfold riseTo;rw[List.range_succ,List.filter_append]
 cases h:s.testBit k <;> simp[h]
theorem riseTo_pre (s:Nat) {k:Nat} (hk:k<=64):riseTo s k <+: risingN s:=by
 have e:List.range 64=List.range k++(List.range (64-k)).map (k + ·):=by
  rw[<- List.range_add];congr 1;omega
 unfold riseTo risingN;rw[e,List.filter_append];exact List.prefix_append _ _
theorem riseTo_all (s:Nat) {k:Nat} (hk:k<=64) (h:s / 2 ^ k=0):riseTo s k=risingN s:=by
 symm;refine range_filter hk _ (fun i hi=>?_);have h2:s<2 ^ k:=by
  rcases Nat.lt_or_ge s (2 ^ k) with h' | h'
  ·exact h'
  ·have:=Nat.div_pos h' (Nat.pow_pos (by omega));omega
 exact Nat.testBit_lt_two_pow (Nat.lt_of_lt_of_le h2 (Nat.pow_le_pow_right (by omega) hi))
theorem shift_some {s k:Nat} (hs:s<18446744073709551616) (h:s / 2 ^ k≠0):k<64:=by
 rcases Nat.lt_or_ge k 64 with h' | h'
 ·exact h'
 ·exfalso;apply h;apply Nat.div_eq_of_lt;exact Nat.lt_of_lt_of_le hs (Nat.pow_le_pow_right (n:=2) (by omega) h')
end Go.Scout
namespace Go.Proofs.YtlpbelhfpoilpaaGreatDoor
open Go.RowKit Go.Scout Go.Shelf
attribute [local go_sem] Oper.semAt_some
theorem rising_seq (s:Nat) (hs:s<18446744073709551616) (w0:World):SeqB numEl Tryz.prog 184 (.int .u64 (s:Int)) (risingN s) w0:=by
 intro l J W o hW ho hJ hY h0;have HY:Hid _:=hY;have HO:Hid _:=ho;have HW:Hid _:=hW;have HST:Hid _:=@riseTo_succ s;have HSP:Hid _:=@riseTo_pre s;have HSA:Hid _:=@riseTo_all s;have HH:Hid (∀ n x,n<64->_):=fun n x hn=>setHas_any s n hs hn x
 have HSS:Hid (∀ k,s / 2 ^ k≠0->k<64):=fun k h=>shift_some hs h
 have HR0:Hid (riseTo s 0=[]):=rfl;clear hY ho hW hJ;generalize riseTo s=RT at *;refine (callsIn_wide (n:=0)).1 (callsIn_of_wp Tryz.func184 rfl trivial ?_ rfl);simp only[Tryz.ntmps184,List.size_toArray,List.length_cons,List.length_nil,Nat.reduceAdd,Nat.reduceSub,Array.replicate_succ,Array.replicate_zero,List.push_toArray,List.append_toArray,List.nil_append,List.cons_append]
 gi_wp2
 gi_loopw [4] (fun i wr=>∃ k:Nat,k<=64/\i=.int .i64 k/\∃ o1,Hid (J (RT k) o1 wr)/\Hid (Kept (fun b=>¬ o b) W wr)/\Hid (∀ b,o1 b->o b∨(W.heap.size<=b/\b<wr.heap.size)))
  (fun i _=>64-(intOf i).toNat)
 case atStart=>exact⟨0,Nat.zero_le _,rfl,o,by rw[HR0.out]; exact h0,Kept.refl _ _,fun b h=>.inl h⟩
 case round=>
  obtain⟨k,hk,rfl,o1,hJs,hkw,ho1⟩:=hrel;by_cases hz:s / 2 ^ k=0
  ·have HE:Hid _:=HSA.out hk hz;have hzb:((s:Int) / 2 ^ k != 0)=false:=by
    have e:((s:Int) / 2 ^ k)=((s / 2 ^ k:Nat):Int):=by simp
    rw[e,hz]; rfl
   clear hz
   gi_wp2
   go_end0;exact⟨⟨_,rfl⟩,risingN s,o1,by simp[numEl],by rw[<- HE.out]; exact hJs.out,hkw.out,ho1.out⟩
  ·have hk64:=HSS.out k hz;have hzb:((s:Int) / 2 ^ k != 0)=true:=by
    have e:((s:Int) / 2 ^ k)=((s / 2 ^ k:Nat):Int):=by simp
    rw[e,bne_iff_ne]; omega
   have HT:Hid _:=HST.out k;have HP:Hid (RT (k+1) <+: risingN s):=HSP.out (by omega);have hH:=HH.out k wr hk64;clear hz HST HSP HSA HH HSS HR0
   cases hb:s.testBit k with
   | false =>
    rw[hb] at hH HT;clear hb
    gi_wp2
    refine⟨trivial,rfl,callsIn_wide.2 (hH.mono ?_)⟩;rintro e W3 ⟨rfl,rfl⟩
    gi_wp2
    refine⟨(fun _ h=>by cases h),?_⟩
    gi_wp2
    go_roundw
    case rel=>exact⟨k+1,by omega,by go_num,o1,by have h:RT (k+1)=RT k++[]:=HT.out; rw[h,List.append_nil]; exact hJs.out,hkw.out,ho1.out⟩
    case measure=>simp[intOf]; omega
   | true =>
    rw[hb] at hH HT;clear hb;have HT':Hid (RT (k+1)=RT k++[k]):=HT.out;obtain⟨fn,tmps,assign,body,hy,hR⟩:=HY.out (RT k) k o1 wr hJs.out (by rw[<- HT'.out]; simpa [numEl] using HP.out) trivial (fun b h=>by cases h) hkw.out.size;have hy':(Instr.yield l #[.int .i64 (k:Int)]).run Tryz.prog wr=.ok (.round l fn tmps assign body) wr:=hy;clear hy HT HP HY
    gi_wp2
    refine⟨trivial,rfl,callsIn_wide.2 (hH.mono ?_)⟩;rintro e W3 ⟨rfl,rfl⟩
    gi_wp2
    refine⟨rfl,hR.mono ?_⟩;rintro e W3 ⟨rfl,o2,hJ3,hk3,hg3⟩;have HJ3:Hid _:=hJ3;have HK3:Hid _:=hk3;have HG3:Hid _:=hg3;clear hJ3 hk3 hg3
    gi_wp2
    go_roundw
    case rel=>
     refine⟨k+1,by omega,by go_num,o2,by rw[HT'.out]; exact HJ3.out,hkw.out.trans' HK3.out ?_,?_⟩
     ·intro b hb h h';rcases ho1.out b h' with h' | h'
      ·exact h h'
      ·omega
     ·intro b hb;have:=HK3.out.size;have:=hkw.out.size;rcases HG3.out b hb with h | h | h
      ·rcases ho1.out b h with h | h
       ·exact .inl h
       ·exact .inr ⟨h.1,by omega⟩
      ·exact .inr ⟨by omega,h.2⟩
      ·cases h.1
    case measure=>simp[intOf]; omega
end Go.Proofs.YtlpbelhfpoilpaaGreatDoor
namespace Go.Scout
open Go.RowKit
theorem prefix_mem {α:Type} {pre l:List α} {x:α} (h:pre++[x] <+: l):x∈l:=h.subset (by simp)
structure BoxI (w2:World) (t:TypeId) (X:Nat) (o1:Nat->Prop) (W:World):Prop where
 g:GB W w2.heap.size t #[.int .u64 (X:Int)]
 below:Below w2.heap.size w2 W
 iff:∀ b,o1 b↔b=w2.heap.size
theorem BoxI.keep {w2:World} {t:TypeId} {X:Nat} {o1:Nat->Prop} {A B:World} {n:Nat} (h:BoxI w2 t X o1 A) (hn:w2.heap.size<=n) (hk:Kept (fun b=>o1 b∨b<n) A B):BoxI w2 t X o1 B:=
 ⟨h.g.keep hk (.inl ((h.iff _).2 rfl)),h.below.trans (hk.below h.below.size (fun b hb=>.inr (by omega))),h.iff⟩
theorem BoxI.step {w2:World} {t:TypeId} {X Y:Nat} {o1:Nat->Prop} {W:World} (h:BoxI w2 t X o1 W):BoxI w2 t Y o1 (W.drew.setCell (aD w2.heap.size 0) (.int .u64 (Y:Int)))/\Kept (fun b=>¬ o1 b) W (W.drew.setCell (aD w2.heap.size 0) (.int .u64 (Y:Int))):=by
 have hk:Kept (fun b=>b≠w2.heap.size) W (W.drew.setCell (aD w2.heap.size 0) (.int .u64 (Y:Int))):=(Kept.of_below ((Below.refl W.heap.size W).drew) (fun b hb _=>hb)).trans (Kept.setCell _ _ _ (fun h=>h rfl));exact⟨⟨(h.g.keep (Kept.of_below (s:=fun _=>True) ((Below.refl W.heap.size W).drew) (fun b hb _=>hb)) trivial).set 0 _,h.below.trans (hk.below h.below.size (fun b hb=>Nat.ne_of_lt hb)),h.iff⟩,hk.mono fun b _ hb e=>hb ((h.iff b).2 e)⟩
end Go.Scout
namespace Go.Proofs.YtlpbelhfpoilpaaGreatDoor
open Go.RowKit Go.Scout Go.Shelf
attribute [local go_sem] Oper.semAt_some
theorem sizeOf_rest (f:FactsV) (ts:List TableD) (q:QueryV) (p:PartV) (ao:Option Addr) (pl cap:Nat) (w:World) (ok:Ok ts q) (hf:f.At ts q w) (hs:p.sources<2 ^ q.src.xs.length) (hc:p.clauses<2 ^ q.wh.length) (hk:outK p.kind=false) :
  Calls Tryz.prog 229 #[.agg (f.cells ts q),.agg p.cells,.slice ao pl cap] w fun e w'=>e=.returned (.int .u64 ((sizeP ts q p.sources p.clauses:Nat):Int))/\Below w.heap.size w w':=by
 have hs64:p.sources<18446744073709551616:=Nat.lt_of_lt_of_le hs (Nat.pow_le_pow_right (n:=2) (by omega) ok.small);have hc64:p.clauses<18446744073709551616:=Nat.lt_of_lt_of_le hc (Nat.pow_le_pow_right (n:=2) (by omega) ok.whs);have HSM:Hid (∀ x∈risingN p.sources,x<q.src.xs.length):=fun x hx=>rising_lt hs hx
 have HCM:Hid (∀ x∈risingN p.clauses,x<q.wh.length):=fun x hx=>rising_lt hc hx
 have HSQ:Hid (∀ w0,SeqB numEl Tryz.prog 184 (.int .u64 (p.sources:Int)) (risingN p.sources) w0):=rising_seq p.sources hs64;have HCQ:Hid (∀ w0,SeqB numEl Tryz.prog 184 (.int .u64 (p.clauses:Int)) (risingN p.clauses) w0):=rising_seq p.clauses hc64;have HR:Hid _:=hf.rows;have HP:Hid _:=hf.parts;have HRL:Hid ((rowsL ts q).length=q.src.xs.length):=rowsL_len ts q;have HPL:Hid ((partL ts q).length=q.wh.length):=partL_len ts q;have HRB:Hid (∀ x,x<q.src.xs.length->(rowsL ts q).getD x 0<=topN):=fun x hx=>by
  rw[rowsL_get ts q hx];obtain⟨h0,h1⟩:=allB_get ok.src (k:=x) hx;have ht:=table_of ok.cat (i:=(q.src.xs.getD x 0).toNat) (by omega);unfold tableB at ht;rw[decide_eq_true_eq] at ht;unfold rowsN topN;rw[Int.toNat_natCast];omega
 have HPB:Hid (∀ x,x<q.wh.length->1<=(partL ts q).getD x 0/\(partL ts q).getD x 0<=1000000):=fun x hx=>by
  rw[partL_get ts q hx];exact parts_bd ok.cat ok.src (ok.cols x hx)
 obtain⟨X,hX0,hXs,hXt,hXa⟩:∃ X:List Nat->Nat,X []=1/\(∀ pre x,x<q.src.xs.length->X (pre++[x])=timesN (X pre) ((rowsL ts q).getD x 0))/\(∀ pre,X pre<=topN)/\X (risingN p.sources)=((risingN p.sources).map fun (k:Nat)=>rowsN ts q.src.xs (k:Int)).foldl timesN 1:=
  ⟨fun pre=>(pre.map fun (k:Nat)=>rowsN ts q.src.xs (k:Int)).foldl timesN 1,rfl,fun pre x hx=>by simp only[List.map_append,List.foldl_append]; rw[rowsL_get ts q hx]; rfl,fun pre=>timesN_fold_le _ 1 (by unfold topN; omega),rfl⟩
 obtain⟨S0,hS0⟩:∃ S0,X (risingN p.sources)=S0:=⟨_,rfl⟩
 obtain⟨Y,hY0,hYs,hYt,hYa⟩:∃ Y:List Nat->Nat,Y []=S0/\(∀ pre x,x<q.wh.length->Y (pre++[x])=Y pre / (partL ts q).getD x 0)/\(∀ pre,Y pre<=topN)/\Y (risingN p.clauses)=(risingN p.clauses).foldl (fun x c=>x / partsN ts q.src.xs (q.wh.getD c lz).cs) S0:=
  ⟨fun pre=>pre.foldl (fun x c=>x / partsN ts q.src.xs (q.wh.getD c lz).cs) S0,rfl,fun pre x hx=>by simp only[List.foldl_append]; rw[partL_get ts q hx]; rfl,fun pre=>Nat.le_trans (div_fold_le _ pre S0) (by rw[<- hS0]; exact hXt _),rfl⟩
 obtain⟨R,hR⟩:∃ R,R=sizeP ts q p.sources p.clauses:=⟨_,rfl⟩
 have HRE:Hid (R=if S0=0 then 0 else max (Y (risingN p.clauses)) 1):=by
  show R=_
  rw[hR];unfold sizeP;rw[<- hXa,hS0,hYa]
 rw[<- hR];clear hR;have HX0:Hid _:=hX0;have HXS:Hid _:=hXs;have HXT:Hid _:=hXt;have HS0:Hid _:=hS0;have HY0:Hid _:=hY0;have HYS:Hid _:=hYs;have HYT:Hid _:=hYt;clear hX0 hXs hXt hXa hS0 hY0 hYs hYt hYa;have hOK:=fun x=>outK_any p.kind x
 rw[hk] at hOK;obtain⟨v0,v1,v2,v3,v4,v5,v6,v7,v8,v9,v10,v11,v12,hFC,-,-,-,-,-,-,-,-,-,-,hv10,-,hv12⟩:=factsCells f ts q;rw[hFC];rw[hf.pl] at hv12;rw[partCells];clear hk hs hc hs64 hc64 hFC ok hf;generalize rowsL ts q=RL at *;generalize partL ts q=PL at *;generalize risingN p.sources=SL at *;generalize risingN p.clauses=CL at *;obtain⟨kind,ps,pc,ord,pz1,pz2⟩:=p;simp only at *;generalize ord.val=od at *;obtain⟨w1,hw1⟩:∃ x,w.alloc (.cells #[v0,v1,v2,v3,v4,v5,v6,v7,v8,v9,v10,v11,v12] 105)=x:=⟨_,rfl⟩
 have hk1:Below w.heap.size w w1:=by rw[<- hw1]; exact bQ2 _ _
 have hg1:GB w1 w.heap.size 105 #[v0,v1,v2,v3,v4,v5,v6,v7,v8,v9,v10,v11,v12]:=by rw[<- hw1]; exact bQ3 _ _
 obtain⟨w2,hw2⟩:∃ x,w1.alloc (.cells #[.int .i64 kind,.int .u64 (ps:Int),.int .u64 (pc:Int),od,.int .u64 (pz1:Int),.int .u64 (pz2:Int)] 110)=x:=⟨_,rfl⟩
 have hk2:Below w1.heap.size w1 w2:=by rw[<- hw2]; exact bQ2 _ _
 have hg2:GB w2 w1.heap.size 110 #[.int .i64 kind,.int .u64 (ps:Int),.int .u64 (pc:Int),od,.int .u64 (pz1:Int),.int .u64 (pz2:Int)]:=by rw[<- hw2]; exact bQ3 _ _
 have hc1:=hk2;have hc0:Below w.heap.size w w2:=bQ1 hk1 hc1;have gg1:GB w2 w.heap.size 105 #[v0,v1,v2,v3,v4,v5,v6,v7,v8,v9,v10,v11,v12]:=hg1.of (hc1.block _ hg1.lt);have g1_10:w2.cell? (aD w.heap.size 10)=some (v10):=gg1.cell 10;have g1_12:w2.cell? (aD w.heap.size 12)=some (v12):=gg1.cell 12;have gg2:=hg2;have g2_0:w2.cell? (aD w1.heap.size 0)=some (.int .i64 kind):=gg2.cell 0;have g2_1:w2.cell? (aD w1.heap.size 1)=some (.int .u64 (ps:Int)):=gg2.cell 1;have g2_2:w2.cell? (aD w1.heap.size 2)=some (.int .u64 (pc:Int)):=gg2.cell 2;rw[hv10] at g1_10;rw[hv12] at g1_12;clear hv10 hv12;obtain⟨w3,hw3⟩:∃ x,w2.alloc (.cells #[.int .u64 1] 36)=x:=⟨_,rfl⟩
 have hk3:Below w2.heap.size w2 w3:=by rw[<- hw3]; exact bQ2 _ _
 have hg3:GB w3 w2.heap.size 36 #[.int .u64 1]:=by rw[<- hw3]; exact bQ3 _ _
 have hz3:Hid (w3.heap.size=w2.heap.size+1):=by rw[<- hw3]; show _=_; simp
 have HK0:Hid _:=hc0;have HK3:Hid _:=hk3;have HG3:Hid _:=hg3;have b1:w3.cell? (aD w1.heap.size 1)=some (.int .u64 (ps:Int)):=cB hk3 g2_1;have G110:Hid _:=g1_10;have G112:Hid _:=g1_12;have G22:Hid _:=g2_2;clear hk1 hk2 hg1 hg2 gg1 gg2 hc0 hc1 hk3 hg3 g1_10 g1_12 g2_2 g2_1;refine (callsIn_wide (n:=0)).1 (callsIn_of_wp_marks Tryz.func229 rfl trivial ?_ rfl);simp only[Tryz.ntmps229,List.size_toArray,List.length_cons,List.length_nil,Nat.reduceAdd,Nat.reduceSub,Array.replicate_succ,Array.replicate_zero,List.push_toArray,List.append_toArray,List.nil_append,List.cons_append]
 gi_wp2
 refine⟨trivial,rfl,callsIn_wide.2 ((hOK _).mono ?_)⟩;rintro e W ⟨rfl,hWe⟩;have hWe:=hWe.symm;subst hWe;clear hOK
 gi_wp2
 clear b1 g2_0 hw1 hw2 hw3;refine wp_rangeB numEl (gf:=184) (s:=.int .u64 (ps:Int)) rfl (enters_of Tryz.func184 (by kernel_rfl) rfl) (HSQ.out w2) HK3.out rfl
  (fun pre o1 W=>BoxI w2 36 (X pre) o1 W) (fun b=>b=w2.heap.size) ?_ ?_ ⟨by rw[HX0.out]; exact HG3.out,HK3.out,fun _=>Iff.rfl⟩
  (fun x=>{ tmps:=#[.agg #[v0,v1,v2,v3,v4,v5,v6,v7,v8,v9,v10,v11,v12],.agg #[.int .i64 kind,.int .u64 (ps:Int),.int .u64 (pc:Int),od,.int .u64 (pz1:Int),.int .u64 (pz2:Int)],.slice ao pl cap,.pointer (some (aD w.heap.size 0)),.pointer (some (aD w1.heap.size 0)),undef,.int .u64 0,.pointer (some (aD w2.heap.size 0)),.int .i64 (x:Int),undef,undef,.pointer (some (aD w1.heap.size 0)),.int .i64 kind,.bool false,undef,undef,undef,undef,.pointer (some (aD w1.heap.size 1)),.int .u64 (ps:Int),.func (.func 184) #[.int .u64 (ps:Int)] #[],.int .i64 (x:Int),undef,undef,undef,undef,undef,undef,undef,undef,undef,undef,undef,undef,undef,undef,undef,undef,undef,undef,undef,undef,undef,undef,undef],defers:=[] }) ?assign ?body ?done
 ·rintro b rfl;exact⟨Nat.le_refl _,by have:=hz3.out; omega⟩
 ·intro pre o1 A B h hk;exact h.keep (by have:=hz3.out; omega) hk
 case assign=>
  intro l x W K hK;have he:numEl.enc x=.int .i64 (x:Int):=rfl
  gi_wp2
  exact hK
 case body=>
  intro l pre x o1 W hI hpre hx hoff hsz;have hx':x<q.src.xs.length:=HSM.out x (prefix_mem (by simpa [numEl] using hpre));have hbW:Below w.heap.size w W:=HK0.out.trans (hI.below.mono HK0.out.size);obtain⟨rb,ro,hra,hrc⟩:=NatsAt.get (NatsAt.below hbW HR.out) (i:=x) (by rw[HRL.out]; exact hx');have hrx:=hrc x (by rw[HRL.out]; exact hx');have hXn:Hid _:=HXS.out pre x hx';have hrt:=HRB.out x hx';have hXt:=HXT.out pre;have hcx:W.cell? (aD w2.heap.size 0)=some (.int .u64 (X pre:Int)):=hI.g.cell 0;have hfx:=hI.g.frozen 0;have hc10:=cB hI.below G110.out;rw[hra] at hc10;have HI:Hid _:=hI;clear hrc hpre hx hoff hsz hI hbW hra;generalize RL.getD x 0=rn at *;have hT:=fun y=>timesP_any (X pre) rn y hXt hrt
  rw[<- hXn.out] at hT;have HFIN:Hid (∀ act,roundKeeps numEl (fun pre o1 W=>BoxI w2 36 (X pre) o1 W) pre x w3.heap.size o1 W .normal act (W.drew.setCell (aD w2.heap.size 0) (.int .u64 (X (pre++[x]):Int)))):=fun _=>⟨o1,HI.out.step.1,HI.out.step.2,fun b hb=>.inl hb⟩
  clear hrt hXt hXn;generalize X (pre++[x])=Xn at *;generalize X pre=Xp at *
  gi_wp2_with fail
  have hfol:Tryz.prog.follows .mixedOrders=true:=by kernel_rfl
  refine wpIn_region_any hfol (anyIn_round (noDefer_spec (by kernel_rfl)) _ _ _ _ ?_);change wpAnyIn _ _ _ _ _ _ _ _ _ (World.drew _);refine wpAnyIn_take (i:=1) (v:=.pointer (some (aD w.heap.size 10))) rfl rfl (by kernel_rfl) (by kernel_rfl) (by kernel_rfl) (fun _ _ _ h=>h) ⟨Or.inl ⟨by rfl,fun w=>by go_simp⟩,fun _=>rfl⟩ ?_;refine wpAnyIn_take (i:=3) (v:=.int .i64 (x:Int)) rfl rfl (by kernel_rfl) (by kernel_rfl) (by kernel_rfl) (fun _ _ _ h=>h) ⟨Or.inl ⟨by rfl,fun w=>by go_simp⟩,fun _=>rfl⟩ ?_;refine wpAnyIn_ready (rs:=[0,2]) (by kernel_rfl) (by simp) ?_;refine AllReadyIn.cons rfl (fun K hK=>?_) ?_
  ·skip;go_simp;refine hK _ _ ?_;clear hK K;refine wpAnyIn_ready (rs:=[2]) (by kernel_rfl) (by simp) ?_;refine AllReadyIn.cons rfl (fun K hK=>?_) AllReadyIn.nil;go_simp;refine hK _ _ ?_;clear hK K;refine wpAnyIn_take (i:=4) (v:=.pointer (some (aD rb (ro+x)))) rfl rfl (by kernel_rfl) (by kernel_rfl) (by kernel_rfl) (fun _ _ _ h=>h) ⟨Or.inl ⟨by rfl,fun w=>by go_simp⟩,fun _=>rfl⟩ ?_;refine wpAnyIn_ready (rs:=[5]) (by kernel_rfl) (by simp) ?_;refine AllReadyIn.cons rfl (fun K hK=>?_) AllReadyIn.nil;go_simp;refine hK _ _ ?_;clear hK K;refine wpAnyIn_ready (rs:=[6]) (by kernel_rfl) (by simp) ?_;refine AllReadyIn.cons rfl (fun K hK=>?_) AllReadyIn.nil;go_simp;refine⟨trivial,rfl,callsIn_wide.2 ((hT _).mono ?_)⟩;rintro e Wt ⟨rfl,rfl⟩;refine hK _ _ ?_;clear hK K;refine wpAnyIn_ready (rs:=[7]) (by kernel_rfl) (by simp) ?_;refine AllReadyIn.cons rfl (fun K hK=>?_) AllReadyIn.nil;go_simp;refine hK _ _ ?_;clear hK K;refine wpAnyIn_done (by kernel_rfl) ?_ _;exact HFIN.out ⟨#[],[]⟩
  refine AllReadyIn.cons rfl (fun K hK=>?_) AllReadyIn.nil;go_simp;refine hK _ _ ?_;clear hK K;refine wpAnyIn_take (i:=4) (v:=.pointer (some (aD rb (ro+x)))) rfl rfl (by kernel_rfl) (by kernel_rfl) (by kernel_rfl) (fun _ _ _ h=>h) ⟨Or.inl ⟨by rfl,fun w=>by go_simp⟩,fun _=>rfl⟩ ?_;refine wpAnyIn_ready (rs:=[0,5]) (by kernel_rfl) (by simp) ?_;refine AllReadyIn.cons rfl (fun K hK=>?_) ?_
  ·skip;go_simp;refine hK _ _ ?_;clear hK K;refine wpAnyIn_ready (rs:=[5]) (by kernel_rfl) (by simp) ?_;refine AllReadyIn.cons rfl (fun K hK=>?_) AllReadyIn.nil;go_simp;refine hK _ _ ?_;clear hK K;refine wpAnyIn_ready (rs:=[6]) (by kernel_rfl) (by simp) ?_;refine AllReadyIn.cons rfl (fun K hK=>?_) AllReadyIn.nil;go_simp;refine⟨trivial,rfl,callsIn_wide.2 ((hT _).mono ?_)⟩;rintro e Wt ⟨rfl,rfl⟩;refine hK _ _ ?_;clear hK K;refine wpAnyIn_ready (rs:=[7]) (by kernel_rfl) (by simp) ?_;refine AllReadyIn.cons rfl (fun K hK=>?_) AllReadyIn.nil;go_simp;refine hK _ _ ?_;clear hK K;refine wpAnyIn_done (by kernel_rfl) ?_ _;exact HFIN.out ⟨#[],[]⟩
  refine AllReadyIn.cons rfl (fun K hK=>?_) AllReadyIn.nil;go_simp;refine hK _ _ ?_;clear hK K;refine wpAnyIn_ready (rs:=[0]) (by kernel_rfl) (by simp) ?_;refine AllReadyIn.cons rfl (fun K hK=>?_) AllReadyIn.nil;go_simp;refine hK _ _ ?_;clear hK K;refine wpAnyIn_ready (rs:=[6]) (by kernel_rfl) (by simp) ?_;refine AllReadyIn.cons rfl (fun K hK=>?_) AllReadyIn.nil;go_simp;refine⟨trivial,rfl,callsIn_wide.2 ((hT _).mono ?_)⟩;rintro e Wt ⟨rfl,rfl⟩;refine hK _ _ ?_;clear hK K;refine wpAnyIn_ready (rs:=[7]) (by kernel_rfl) (by simp) ?_;refine AllReadyIn.cons rfl (fun K hK=>?_) AllReadyIn.nil;go_simp;refine hK _ _ ?_;clear hK K;refine wpAnyIn_done (by kernel_rfl) ?_ _;exact HFIN.out ⟨#[],[]⟩
 case done=>
  rintro ys o' W2 hys hI hk2 hg2 hD;have hys':ys=SL:=by simpa [numEl] using hys
  subst hys';rw[HS0.out] at hI;have hcp:W2.cell? (aD w2.heap.size 0)=some (.int .u64 (S0:Int)):=hI.g.cell 0;have hb2:=hI.below;have hD':Hid _:=hD;have hlt3:Hid (w3.heap.size<W2.heap.size):=(Array.getElem?_eq_some_iff.1 hD).1;by_cases h0:S0=0
  ·have HRE0:Hid (R=0):=by show R=0; rw[HRE.out,if_pos h0]
   subst h0;clear HXS HYS HRE HSQ HCQ HP HR HRB HPB HX0 HY0 HG3
   gi_wp2
   refine⟨by simp,.inl ⟨_,_,rfl,run_takeDeferred hD,?_⟩⟩;refine⟨_,results_tmp rfl _ _ _,by rw[HRE0.out]; rfl,?_⟩;exact HK0.out.trans (((hb2.mono HK0.out.size)).trans ((Kept.putObj (s:=fun b=>b<w.heap.size) _ _ (by have:=HK0.out.size; have:=hz3.out; omega)).below (Nat.le_trans HK0.out.size hb2.size) (fun _ h=>h)))
  ·have HRE1:Hid (R=max (Y CL) 1):=by show R=_; rw[HRE.out,if_neg h0]
   have h0b:((S0:Int)==0)=false:=by rw[beq_eq_false_iff_ne]; omega
   obtain⟨W3,hW3⟩:∃ x,W2.alloc (.cells #[.int .u64 (S0:Int)] 36)=x:=⟨_,rfl⟩
   have hkW3:Below W2.heap.size W2 W3:=by rw[<- hW3]; exact bQ2 _ _
   have hgW3:Hid (GB W3 W2.heap.size 36 #[.int .u64 (S0:Int)]):=by rw[<- hW3]; exact bQ3 _ _
   have hzW3:Hid (W3.heap.size=W2.heap.size+1):=by rw[<- hW3]; show _=_; simp
   have c2:W3.cell? (aD w1.heap.size 2)=some (.int .u64 (pc:Int)):=cB hkW3 (cB hb2 G22.out);have HKW:Hid _:=hkW3;have HB2:Hid _:=hb2;clear h0 HXS HSQ HRE HR HRB HX0 HG3 hk2 hg2 hD hI hkW3 hb2
   gi_wp2
   clear c2 hcp hW3 h0b;refine wp_rangeB numEl (gf:=184) (s:=.int .u64 (pc:Int)) rfl (enters_of Tryz.func184 (by kernel_rfl) rfl) (HCQ.out W2) HKW.out rfl
    (fun pre o1 W=>BoxI W2 36 (Y pre) o1 W) (fun b=>b=W2.heap.size) ?_ ?_ ⟨by rw[HY0.out]; exact hgW3.out,HKW.out,fun _=>Iff.rfl⟩
    (fun x=>{ tmps:=#[.agg #[v0,v1,v2,v3,v4,v5,v6,v7,v8,v9,v10,v11,v12],.agg #[.int .i64 kind,.int .u64 (ps:Int),.int .u64 (pc:Int),od,.int .u64 (pz1:Int),.int .u64 (pz2:Int)],.slice ao pl cap,.pointer (some (aD w.heap.size 0)),.pointer (some (aD w1.heap.size 0)),undef,.int .u64 0,.pointer (some (aD w2.heap.size 0)),undef,.pointer (some (aD W2.heap.size 0)),.int .i64 (x:Int),.pointer (some (aD w1.heap.size 0)),.int .i64 kind,.bool false,undef,undef,undef,undef,.pointer (some (aD w1.heap.size 1)),.int .u64 (ps:Int),.func (.func 184) #[.int .u64 (ps:Int)] #[],undef,undef,undef,undef,undef,undef,undef,undef,.int .u64 (S0:Int),.bool false,.int .u64 (S0:Int),.pointer (some (aD w1.heap.size 2)),.int .u64 (pc:Int),.func (.func 184) #[.int .u64 (pc:Int)] #[],.int .i64 (x:Int),undef,undef,undef,undef,undef,undef,undef,undef,undef],defers:=[] }) ?assign2 ?body2 ?done2
   ·rintro b rfl;exact⟨Nat.le_refl _,by have:=hzW3.out; omega⟩
   ·intro pre o1 A B h hk;exact h.keep (by have:=hzW3.out; omega) hk
   case assign2=>
    intro l x W K hK;have he:numEl.enc x=.int .i64 (x:Int):=rfl
    gi_wp2
    exact hK
   case body2=>
    intro l pre x o1 W hI hpre hx hoff hsz;have hx':x<q.wh.length:=HCM.out x (prefix_mem (by simpa [numEl] using hpre));have hb2W:Below w2.heap.size w2 W:=HB2.out.trans (hI.below.mono HB2.out.size);have hbW:Below w.heap.size w W:=HK0.out.trans (hb2W.mono HK0.out.size);obtain⟨rb,ro,hra,hrc⟩:=NatsAt.get (NatsAt.below hbW HP.out) (i:=x) (by rw[HPL.out]; exact hx');have hrx:=hrc x (by rw[HPL.out]; exact hx');have hXn:Hid _:=HYS.out pre x hx';obtain⟨hr1,hrt⟩:=HPB.out x hx';have hXt:=HYT.out pre;have hcx:W.cell? (aD W2.heap.size 0)=some (.int .u64 (Y pre:Int)):=hI.g.cell 0;have hfx:=hI.g.frozen 0;have hc10:=cB hb2W G112.out;rw[hra] at hc10;have HI:Hid _:=hI;clear hrc hpre hx hoff hsz hI hbW hra hb2W;generalize PL.getD x 0=rn at *;have HFIN:Hid (∀ act,roundKeeps numEl (fun pre o1 W=>BoxI W2 36 (Y pre) o1 W) pre x W3.heap.size o1 W .normal act (W.drew.setCell (aD W2.heap.size 0) (.int .u64 (Y (pre++[x]):Int)))):=fun _=>⟨o1,HI.out.step.1,HI.out.step.2,fun b hb=>.inl hb⟩
    have HQ:Hid (Y pre<=18446744073709551615):=hXt;generalize Y (pre++[x])=Xn at *;generalize Y pre=Xp at *;have hq':((Xp:Int)).tdiv (rn:Int)=(Xn:Int):=by
     rw[hXn.out,Int.tdiv_eq_ediv_of_nonneg (by omega),Int.natCast_ediv]
    have hwn:IntKind.u64.wrap (Xn:Int)=(Xn:Int):=wrap_u64_nat (by have:=HQ.out; rw[hXn.out]; have:=Nat.div_le_self Xp rn; omega);have hrn:¬ rn=0:=by omega
    clear hXt hXn
    gi_wp2_with fail
    have hfol:Tryz.prog.follows .mixedOrders=true:=by kernel_rfl
    refine wpIn_region_any hfol (anyIn_round (noDefer_spec (by kernel_rfl)) _ _ _ _ ?_);change wpAnyIn _ _ _ _ _ _ _ _ _ (World.drew _);refine wpAnyIn_take (i:=1) (v:=.pointer (some (aD w.heap.size 12))) rfl rfl (by kernel_rfl) (by kernel_rfl) (by kernel_rfl) (fun _ _ _ h=>h) ⟨Or.inl ⟨by rfl,fun w=>by go_simp⟩,fun _=>rfl⟩ ?_;refine wpAnyIn_take (i:=3) (v:=.int .i64 (x:Int)) rfl rfl (by kernel_rfl) (by kernel_rfl) (by kernel_rfl) (fun _ _ _ h=>h) ⟨Or.inl ⟨by rfl,fun w=>by go_simp⟩,fun _=>rfl⟩ ?_;refine wpAnyIn_ready (rs:=[0,2]) (by kernel_rfl) (by simp) ?_;refine AllReadyIn.cons rfl (fun K hK=>?_) ?_
    ·skip;go_simp;refine hK _ _ ?_;clear hK K;refine wpAnyIn_ready (rs:=[2]) (by kernel_rfl) (by simp) ?_;refine AllReadyIn.cons rfl (fun K hK=>?_) AllReadyIn.nil;go_simp;refine hK _ _ ?_;clear hK K;refine wpAnyIn_take (i:=4) (v:=.pointer (some (aD rb (ro+x)))) rfl rfl (by kernel_rfl) (by kernel_rfl) (by kernel_rfl) (fun _ _ _ h=>h) ⟨Or.inl ⟨by rfl,fun w=>by go_simp⟩,fun _=>rfl⟩ ?_;refine wpAnyIn_ready (rs:=[5]) (by kernel_rfl) (by simp) ?_;refine AllReadyIn.cons rfl (fun K hK=>?_) AllReadyIn.nil;go_simp;refine hK _ _ ?_;clear hK K;refine wpAnyIn_ready (rs:=[6]) (by kernel_rfl) (by simp) ?_;refine AllReadyIn.cons rfl (fun K hK=>?_) AllReadyIn.nil;go_simp;refine hK _ _ ?_;clear hK K;refine wpAnyIn_ready (rs:=[7]) (by kernel_rfl) (by simp) ?_;refine AllReadyIn.cons rfl (fun K hK=>?_) AllReadyIn.nil;go_simp;refine hK _ _ ?_;clear hK K;refine wpAnyIn_done (by kernel_rfl) ?_ _;exact HFIN.out ⟨#[],[]⟩
    refine AllReadyIn.cons rfl (fun K hK=>?_) AllReadyIn.nil;go_simp;refine hK _ _ ?_;clear hK K;refine wpAnyIn_take (i:=4) (v:=.pointer (some (aD rb (ro+x)))) rfl rfl (by kernel_rfl) (by kernel_rfl) (by kernel_rfl) (fun _ _ _ h=>h) ⟨Or.inl ⟨by rfl,fun w=>by go_simp⟩,fun _=>rfl⟩ ?_;refine wpAnyIn_ready (rs:=[0,5]) (by kernel_rfl) (by simp) ?_;refine AllReadyIn.cons rfl (fun K hK=>?_) ?_
    ·skip;go_simp;refine hK _ _ ?_;clear hK K;refine wpAnyIn_ready (rs:=[5]) (by kernel_rfl) (by simp) ?_;refine AllReadyIn.cons rfl (fun K hK=>?_) AllReadyIn.nil;go_simp;refine hK _ _ ?_;clear hK K;refine wpAnyIn_ready (rs:=[6]) (by kernel_rfl) (by simp) ?_;refine AllReadyIn.cons rfl (fun K hK=>?_) AllReadyIn.nil;go_simp;refine hK _ _ ?_;clear hK K;refine wpAnyIn_ready (rs:=[7]) (by kernel_rfl) (by simp) ?_;refine AllReadyIn.cons rfl (fun K hK=>?_) AllReadyIn.nil;go_simp;refine hK _ _ ?_;clear hK K;refine wpAnyIn_done (by kernel_rfl) ?_ _;exact HFIN.out ⟨#[],[]⟩
    refine AllReadyIn.cons rfl (fun K hK=>?_) AllReadyIn.nil;go_simp;refine hK _ _ ?_;clear hK K;refine wpAnyIn_ready (rs:=[0]) (by kernel_rfl) (by simp) ?_;refine AllReadyIn.cons rfl (fun K hK=>?_) AllReadyIn.nil;go_simp;refine hK _ _ ?_;clear hK K;refine wpAnyIn_ready (rs:=[6]) (by kernel_rfl) (by simp) ?_;refine AllReadyIn.cons rfl (fun K hK=>?_) AllReadyIn.nil;go_simp;refine hK _ _ ?_;clear hK K;refine wpAnyIn_ready (rs:=[7]) (by kernel_rfl) (by simp) ?_;refine AllReadyIn.cons rfl (fun K hK=>?_) AllReadyIn.nil;go_simp;refine hK _ _ ?_;clear hK K;refine wpAnyIn_done (by kernel_rfl) ?_ _;exact HFIN.out ⟨#[],[]⟩
   case done2=>
    rintro ys o' W4 hys hI hk4 hg4 hD4;have hys':CL=ys:=by symm; simpa [numEl] using hys
    subst hys';have hcp:W4.cell? (aD W2.heap.size 0)=some (.int .u64 (Y CL:Int)):=hI.g.cell 0;have hb4:=hI.below;have hYt:=HYT.out CL;have HRE2:Hid _:=HRE1;generalize Y CL=yv at *;obtain⟨rv,hrv⟩:∃ rv,rv=max yv 1:=⟨_,rfl⟩
    have hmx:max (yv:Int) 1=(rv:Int):=by omega
    have hmx2:max (1:Int) (yv:Int)=(rv:Int):=by omega
    have hif:(if (yv:Int)<1 then 1 else (yv:Int))=(rv:Int):=by split <;> omega
    have hif2:(if 1<(yv:Int) then (yv:Int) else 1)=(rv:Int):=by split <;> omega
    have HRV:Hid (R=rv):=by show R=rv; rw[hrv]; exact HRE2.out
    have hDD:W4.heap[w3.heap.size]? = some (Obj.deferred (some [])):=(hb4.block _ hlt3.out).trans hD'.out;clear hrv HYS HCQ HP HPB HY0 HYT hk4 hg4
    gi_wp2
    refine⟨by simp,.inl ⟨_,_,rfl,run_takeDeferred hD4,?_⟩⟩;refine⟨by simp,.inl ⟨_,_,rfl,run_takeDeferred ((World.putObj_heap_other (by have:=hlt3.out; have:=hzW3.out; omega)).trans hDD),?_⟩⟩;refine⟨_,results_tmp rfl _ _ _,by rw[HRV.out]; rfl,?_⟩;have s0:=HK0.out.size;have s2:=HB2.out.size;have s3:=hz3.out;have s4:=hzW3.out;have s5:=hb4.size;have s6:=hlt3.out;refine HK0.out.trans (((HB2.out.mono s0)).trans ((hb4.mono (by omega)).trans (((Kept.putObj (s:=fun b=>b<w.heap.size) _ _ (by omega)).below (by omega) (fun _ h=>h)).trans ((Kept.putObj (s:=fun b=>b<w.heap.size) _ _ (by omega)).below (by rw[World.putObj_size]; omega) (fun _ h=>h)))))
open Go.RowKit Go.Scout
theorem sizeOf_out (f:FactsV) (ts:List TableD) (q:QueryV) (p:PartV) (ao:Option Addr) (cap:Nat) (ps:List PartV) (w:World) (hp:PartsAt w ao ps) (h0:0<ps.length) (hk:outK p.kind=true) :
  Calls Tryz.prog 229 #[.agg (f.cells ts q),.agg p.cells,.slice ao ps.length cap] w fun e w'=>e=.returned (.int .u64 (((ps.getD 0 pvz).size:Nat):Int))/\Below w.heap.size w w':=by
 obtain⟨⟨pb,po,rfl,c0,c1,c2,c3,c4,c5⟩,-⟩:=hp.2 0 h0;rw[Nat.zero_mul,Nat.add_zero] at c4;have hpl:=hp.1;have hOK:=fun x=>outK_any p.kind x
 rw[hk] at hOK;generalize f.cells ts q=FC at *;obtain⟨w1,hw1⟩:∃ x,w.alloc (.cells FC 105)=x:=⟨_,rfl⟩
 have hk1:Below w.heap.size w w1:=by rw[<- hw1]; exact bQ2 _ _
 have hg1:GB w1 w.heap.size 105 FC:=by rw[<- hw1]; exact bQ3 _ _
 obtain⟨w2,hw2⟩:∃ x,w1.alloc (.cells p.cells 110)=x:=⟨_,rfl⟩
 have hk2:Below w1.heap.size w1 w2:=by rw[<- hw2]; exact bQ2 _ _
 have hg2:GB w2 w1.heap.size 110 p.cells:=by rw[<- hw2]; exact bQ3 _ _
 have hc1:=hk2;have hc0:Below w.heap.size w w2:=bQ1 hk1 hc1;have gg1:GB w2 w.heap.size 105 FC:=hg1.of (hc1.block _ hg1.lt);have gg2:=hg2;have g2_0:w2.cell? (aD w1.heap.size 0)=some (.int .i64 p.kind):=gg2.cell 0;have d4:=cB hc0 c4;have HC:Hid _:=hc0;generalize p.kind=k at *;generalize (ps.getD 0 pvz).size=z at *;generalize p.cells=PC at *;clear hk hp c0 c1 c2 c3 c4 c5 hk1 hk2 hg1 hg2 gg1 gg2 hc0 hc1;go_enter Tryz.func229,Tryz.ntmps229;go_wp2_with fail;refine (hOK _).mono ?_;rintro e w3 ⟨rfl,rfl⟩;go_wp2;go_ret;exact⟨rfl,HC.out⟩
theorem sizeOf_any (f:FactsV) (ts:List TableD) (q:QueryV) (p:PartV) (ao:Option Addr) (cap:Nat) (ps:List PartV) (w:World) (ok:Ok ts q) (hf:f.At ts q w) (hp:PartsAt w ao ps) (hs:p.sources<2 ^ q.src.xs.length) (hc:p.clauses<2 ^ q.wh.length) (h0:outK p.kind=true->0<ps.length) :
  Calls Tryz.prog 229 #[.agg (f.cells ts q),.agg p.cells,.slice ao ps.length cap] w fun e w'=>e=.returned (.int .u64 (((if outK p.kind=true then (ps.getD 0 pvz).size else sizeP ts q p.sources p.clauses):Nat):Int))/\Below w.heap.size w w':=by
 cases hk:outK p.kind with
 | true =>
  rw[if_pos rfl];exact sizeOf_out f ts q p ao cap ps w hp (h0 hk) hk
 | false =>
  rw[if_neg (by simp)];exact sizeOf_rest f ts q p ao ps.length cap w ok hf hs hc hk
theorem ownSources_any (n:NodeV) (w:World) (h:n.kind=1->0<=n.source/\n.source<64) :
  Calls Tryz.prog 228 #[.agg n.cells] w fun e w'=>e=.returned (.int .u64 (((if n.kind=1 then 2 ^ n.source.toNat else 0):Nat):Int))/\Below w.heap.size w w':=by
 obtain⟨w1,hw1⟩:∃ x,w.alloc (.cells n.cells 58)=x:=⟨_,rfl⟩
 have hk1:Below w.heap.size w w1:=by rw[<- hw1]; exact bQ2 _ _
 have hg1:GB w1 w.heap.size 58 n.cells:=by rw[<- hw1]; exact bQ3 _ _
 have hc0:Below w.heap.size w w1:=hk1;have gg1:=hg1;have g1_0:w1.cell? (aD w.heap.size 0)=some (.int .i64 n.kind):=gg1.cell 0;have g1_3:w1.cell? (aD w.heap.size 3)=some (.int .i64 n.source):=gg1.cell 3;have HC:Hid _:=hc0;clear hg1 gg1 hk1 hc0;generalize n.cells=NC at *;by_cases k1:n.kind=1
 ·obtain⟨h0,h1⟩:=h k1;obtain⟨s,hs⟩:=Int.eq_ofNat_of_zero_le h0;rw[if_pos k1];have hS:=setOf_one w1.heap.size s (w1.alloc (.cells #[.int .i64 (s:Int)] 3)) (by simp) (by omega);have e2:2 ^ n.source.toNat=2 ^ s:=by rw[hs]; rfl
  rw[e2];obtain⟨R,hR2⟩:∃ R,R=2 ^ s:=⟨_,rfl⟩
  rw[<- hR2] at hS ⊢;clear e2 hR2;rw[hs] at g1_3;rw[k1] at g1_0;have HB:Hid (Below w.heap.size w (w1.alloc (.cells #[.int .i64 (s:Int)] 3))):=HC.out.trans ((bQ2 _ _).mono HC.out.size);clear h hs k1 h0 h1;go_enter Tryz.func228,Tryz.ntmps228;go_wp2_with fail;refine hS.mono ?_;rintro e w3 ⟨rfl,rfl⟩;go_wp2;go_ret;exact⟨rfl,HB.out⟩
 ·rw[if_neg k1];have kb:(n.kind==1)=false:=by simp[k1]
  generalize n.kind=k at *;go_enter Tryz.func228,Tryz.ntmps228;go_wp2;go_ret;exact⟨rfl,HC.out⟩
end Go.Proofs.YtlpbelhfpoilpaaGreatDoor
