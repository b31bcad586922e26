import Derived.Deep.CutRange
import Derived.Test.YtlpbelhfpoilpaaGreatDoorProg
import Derived.OwnWalk
import Derived.RegionTactic
import Derived.Test.YtlpbelhfpoilpaaGreatDoorC07
import Derived.Test.YtlpbelhfpoilpaaGreatDoorC08
import Derived.Test.YtlpbelhfpoilpaaGreatDoorC09
import Derived.Test.YtlpbelhfpoilpaaGreatDoorC13
set_option linter.all false
set_option maxRecDepth 100000
set_option maxHeartbeats 16000000
namespace Go.Scout
open Go.RowKit
def shapeIn (k:Int):Int:=if k=0∨k=1 then 0 else if 3<=k/\k<=5 then 2 else 1
def shapeCells (k:Int):Array Value:=#[.int .i64 (shapeIn k),.bool (decide (k=1)),.bool (decide (2<=k/\k<=5)),.bool (decide (k=4∨k=5)),.bool (decide (k=6))]
def shapesList:List Value:=(List.range 11).flatMap fun (k:Nat)=>(shapeCells (k:Int)).toList
def ShapesAt (w:World) (g:Nat):Prop:=∀ j u,shapesList[j]? = some u->w.cell? (aD g j)=some u
theorem ShapesAt.below {w w':World} {g:Nat} (hb:Below w.heap.size w w') (h:ShapesAt w g):ShapesAt w' g:=fun j u hj=>cB hb (h j u hj)
theorem ShapesAt.get {w:World} {g:Nat} (h:ShapesAt w g) {k:Nat} (hk:k<=10) :
  w.cell? (aD g (0+k*5))=some (.int .i64 (shapeIn k))/\w.cell? (aD g (0+k*5+1))=some (.bool (decide ((k:Int)=1)))/\w.cell? (aD g (0+k*5+2))=some (.bool (decide (2<=(k:Int)/\(k:Int)<=5)))/\
   w.cell? (aD g (0+k*5+3))=some (.bool (decide ((k:Int)=4∨(k:Int)=5)))/\w.cell? (aD g (0+k*5+4))=some (.bool (decide ((k:Int)=6))):=by
 have hf:∀ j,j<5->shapesList[k*5+j]? = (shapeCells (k:Int)).toList[j]?:=fun j hj=>by
  have:=flat_get (fun (k:Nat)=>(shapeCells (k:Int)).toList) 5 (fun _=>rfl) 0 (List.range 11) k j (by simp; omega) hj;unfold shapesList;rw[this];simp[List.getD,show k<11 by omega]
 simp only[Nat.zero_add];refine⟨h (k*5) _ ?_,h (k*5+1) _ ?_,h (k*5+2) _ ?_,h (k*5+3) _ ?_,h (k*5+4) _ ?_⟩
 ·have:=hf 0 (by omega); rw[Nat.add_zero] at this; rw[this]; rfl
 ·rw[hf 1 (by omega)]; rfl
 ·rw[hf 2 (by omega)]; rfl
 ·rw[hf 3 (by omega)]; rfl
 ·rw[hf 4 (by omega)]; rfl
theorem shapeIn_arity {k:Int} (h1:1<=k):shapeIn k=(arity k:Int):=by
 unfold shapeIn arity;by_cases h:k=1
 ·rw[if_pos (.inr h),if_pos h]; rfl
 ·rw[if_neg (by omega),if_neg h];split <;> rfl
def inputsL (n:NodeV):List Int:=[n.l,n.r].take (arity n.kind)
end Go.Scout
namespace Go.Proofs.YtlpbelhfpoilpaaGreatDoor
open Go.RowKit Go.Scout
theorem inputsOf_any (n:NodeV) (w:World) (hs:ShapesAt w 0) (h1:1<=n.kind) (h10:n.kind<=10) :
  Calls Tryz.prog 149 #[.agg n.cells] w fun e w'=>∃ b,e=.returned (.slice (some (aD b 0)) (inputsL n).length 2)/\IntsAt w' (some (aD b 0)) (inputsL n)/\w.heap.size<=b/\Below w.heap.size w w':=by
 obtain⟨w1,hw1⟩:∃ x,w.alloc (.cells n.cells 58)=x:=⟨_,rfl⟩
 have hk1:Below w.heap.size w w1:=by rw[<- hw1]; exact bQ2 _ _
 have hg1:GB w1 w.heap.size 58 n.cells:=by rw[<- hw1]; exact bQ3 _ _
 have g0:w1.cell? (aD w.heap.size 0)=some (.int .i64 n.kind):=hg1.cell 0;have g1:w1.cell? (aD w.heap.size 1)=some (.int .i64 n.l):=hg1.cell 1;have g2:w1.cell? (aD w.heap.size 2)=some (.int .i64 n.r):=hg1.cell 2;have HIL:Hid (inputsL n=[n.l,n.r].take (arity n.kind)):=rfl;have HSI:Hid _:=shapeIn_arity h1;have HAR:Hid (arity n.kind<=2):=by show _<=_; unfold arity; split <;> (try split) <;> omega
 have HSG:Hid (∀ k:Nat,k<=10->_):=fun k hk=>(hs.below hk1).get hk
 have HC:Hid _:=hk1;generalize n.cells=NC at *;generalize inputsL n=IL at *;obtain⟨nk,nl,nr,ns,ncl,nkey,nco⟩:=n;simp only at *;obtain⟨k,rfl⟩:=Int.eq_ofNat_of_zero_le (show 0<=nk by omega);obtain⟨c0,-⟩:=HSG.out k (by omega);rw[HSI.out] at c0;have hk10:k<=10:=by omega
 have hk1':1<=k:=by omega
 generalize arity (k:Int)=ar at *;have har:=HAR.out;have HIA:Hid (∀ x:World,IntsAt (x.alloc (.cells #[.int .i64 nl,.int .i64 nr] 3)) (some (aD x.heap.size 0)) [nl,nr]):=fun x=>ints_alloc x [nl,nr] _ (by simp)
 clear hg1 hk1 hs HSG HSI HAR h1 h10;rw[Nat.zero_add] at c0;have hk11:¬ (11:Int)<=(k:Int):=by omega
 have har':(ar:Int)<=2:=by omega
 go_enter Tryz.func149,Tryz.ntmps149;go_wp2;refine wp_region_held_drew (S:=fun x=>Below w1.heap.size w1 x) (by kernel_rfl) ((Below.refl _ _).drew) (fun hS=>?_);refine wpAnyH_take (i:=0) (v:=.pointer (some (aD w.heap.size 1))) rfl (by kernel_rfl) (by kernel_rfl) (by kernel_rfl) (fun _ _ _ h=>h) (.inl ⟨by rfl,fun x hx=>?_⟩) hS ?_
 ·go_simp
 refine wpAnyH_take (i:=1) (v:=.int .i64 nl) rfl (by kernel_rfl) (by kernel_rfl) (by kernel_rfl) (fun _ _ _ h=>h) (.inl ⟨by rfl,fun x hx=>?_⟩) hS ?_
 ·have e0:=cB hx g1;go_simp
 refine wpAnyH_take (i:=2) (v:=.pointer (some (aD w.heap.size 2))) rfl (by kernel_rfl) (by kernel_rfl) (by kernel_rfl) (fun _ _ _ h=>h) (.inl ⟨by rfl,fun x hx=>?_⟩) hS ?_
 ·go_simp
 refine wpAnyH_take (i:=3) (v:=.int .i64 nr) rfl (by kernel_rfl) (by kernel_rfl) (by kernel_rfl) (fun _ _ _ h=>h) (.inl ⟨by rfl,fun x hx=>?_⟩) hS ?_
 ·have e0:=cB hx g2;go_simp
 refine wpAnyH_take (i:=5) (v:=.pointer (some (aD w.heap.size 0))) rfl (by kernel_rfl) (by kernel_rfl) (by kernel_rfl) (fun _ _ _ h=>h) (.inl ⟨by rfl,fun x hx=>?_⟩) hS ?_
 ·go_simp
 refine wpAnyH_take (i:=6) (v:=.int .i64 (k:Int)) rfl (by kernel_rfl) (by kernel_rfl) (by kernel_rfl) (fun _ _ _ h=>h) (.inl ⟨by rfl,fun x hx=>?_⟩) hS ?_
 ·have e0:=cB hx g0;go_simp
 refine wpAnyH_take (i:=7) (v:=.pointer (some (aD 0 (k*5)))) rfl (by kernel_rfl) (by kernel_rfl) (by kernel_rfl) (fun _ _ _ h=>h) (.inl ⟨by rfl,fun x hx=>?_⟩) hS ?_
 ·go_simp
 refine wpAnyH_take (i:=8) (v:=.pointer (some (aD 0 (k*5)))) rfl (by kernel_rfl) (by kernel_rfl) (by kernel_rfl) (fun _ _ _ h=>h) (.inl ⟨by rfl,fun x hx=>?_⟩) hS ?_
 ·go_simp
 refine wpAnyH_take (i:=9) (v:=.int .i64 (ar:Int)) rfl (by kernel_rfl) (by kernel_rfl) (by kernel_rfl) (fun _ _ _ h=>h) (.inl ⟨by rfl,fun x hx=>?_⟩) hS ?_
 ·have e0:=cB hx c0;go_simp
 refine wpAnyH_ready (rs:=[4]) (by kernel_rfl) (by simp) ?_;refine AllReadyH.cons rfl (fun K hK=>?_) AllReadyH.nil;go_simp;refine hK.out _ _ (hS.trans (bQ2 _ _ |>.mono hS.size)) (fun hS=>?_);clear hK K;refine wpAnyH_ready (rs:=[10]) (by kernel_rfl) (by simp) ?_;refine AllReadyH.cons rfl (fun K hK=>?_) AllReadyH.nil;go_simp;refine hK.out _ _ hS (fun hS=>?_);clear hK K;refine wpAnyH_ready (rs:=[11]) (by kernel_rfl) (by simp) ?_;refine AllReadyH.cons rfl (fun K hK=>?_) AllReadyH.nil;go_simp;refine hK.out _ _ hS (fun hS=>?_);clear hK K;refine wpAnyH_done (by kernel_rfl) ?_ _
 try simp only[pA,sB,sC]
 have HB:Hid _:=bQ1 HC.out hS;have HI:Hid (IntsAt ((w1.alloc (.cells #[.int .i64 nl,.int .i64 nr] 3)).drew) (some (aD w1.heap.size 0)) (IL)):=by
  show IntsAt _ _ _
  rw[HIL.out];exact IntsAt.take (HIA.out w1.drew) ar
 have HLN:Hid (IL.length=ar):=by show _=_; rw[HIL.out,List.length_take]; simp; omega
 clear hS HIL;go_wp2;go_ret;exact⟨w1.heap.size,by rw[HLN.out]; rfl,HI.out,HC.out.size,HB.out⟩
end Go.Proofs.YtlpbelhfpoilpaaGreatDoor
namespace Go.Scout
open Go.RowKit
def hasB (ar:Nat) (sb cb kb ob:Bool) (n:NodeV):List Bool:=
 [decide ((ar:Int)<1)&&(n.l != 0),decide ((ar:Int)<2)&&(n.r != 0),!sb&&(n.source != 0),!kb&&(n.key != 0),!cb&&decide (0<n.cl.xs.length),!ob&&decide (0<n.co.xs.length)]
theorem hasB_more (n:NodeV):(!((hasB (arity n.kind) (decide (n.kind=1)) (decide (2<=n.kind/\n.kind<=5)) (decide (n.kind=4∨n.kind=5)) (decide (n.kind=6)) n).any id))=moreP n:=by
 unfold hasB moreP;rw[Bool.eq_iff_iff];simp only[List.any_cons,List.any_nil,id,Bool.not_eq_true',Bool.or_eq_false_iff,Bool.and_eq_false_iff,decide_eq_true_eq,decide_eq_false_iff_not,Bool.not_eq_false',bne_eq_false_iff_eq];constructor
 ·rintro⟨h1,h2,h3,h4,h5,h6,_⟩;refine⟨?_,?_,h3,?_,?_,?_⟩
  ·rcases h1 with h | h
   ·left; omega
   ·right; exact h
  ·rcases h2 with h | h
   ·left; omega
   ·right; exact h
  ·rcases h4 with (h | h) | h
   ·exact .inl h
   ·exact .inr (.inl h)
   ·exact .inr (.inr h)
  ·rcases h5 with h | h
   ·by_cases h':n.kind=2
    ·exact .inl h'
    ·exact .inr (.inl (by omega))
   ·exact .inr (.inr (by omega))
  ·rcases h6 with h | h
   ·exact .inl h
   ·exact .inr (by omega)
 ·rintro⟨h1,h2,h3,h4,h5,h6⟩;refine⟨?_,?_,h3,?_,?_,?_,trivial⟩
  ·rcases h1 with h | h
   ·left; omega
   ·right; exact h
  ·rcases h2 with h | h
   ·left; omega
   ·right; exact h
  ·rcases h4 with h | h | h
   ·exact .inl (.inl h)
   ·exact .inl (.inr h)
   ·exact .inr h
  ·rcases h5 with h | h | h
   ·exact .inl (by omega)
   ·exact .inl (by omega)
   ·exact .inr (by omega)
  ·rcases h6 with h | h
   ·exact .inl h
   ·exact .inr (by omega)
end Go.Scout
namespace Go.Proofs.YtlpbelhfpoilpaaGreatDoor
open Go.RowKit Go.Scout
theorem hasNoMore_any (n:NodeV) (ar:Nat) (sb cb kb ob:Bool) (w:World) (hcl:n.cl.xs.length<=1152921504606846976) (hco:n.co.xs.length<=1152921504606846976) :
  Calls Tryz.prog 220 #[.agg n.cells,.agg #[.int .i64 (ar:Int),.bool sb,.bool cb,.bool kb,.bool ob]] w fun e w'=>e=.returned (.bool (!((hasB ar sb cb kb ob n).any id)))/\Below w.heap.size w w':=by
 obtain⟨w1,hw1⟩:∃ x,w.alloc (.cells n.cells 58)=x:=⟨_,rfl⟩
 have hk1:Below w.heap.size w w1:=by rw[<- hw1]; exact bQ2 _ _
 have hg1:GB w1 w.heap.size 58 n.cells:=by rw[<- hw1]; exact bQ3 _ _
 obtain⟨w2,hw2⟩:∃ x,w1.alloc (.cells #[.int .i64 (ar:Int),.bool sb,.bool cb,.bool kb,.bool ob] 294)=x:=⟨_,rfl⟩
 have hk2:Below w1.heap.size w1 w2:=by rw[<- hw2]; exact bQ2 _ _
 have hg2:GB w2 w1.heap.size 294 #[.int .i64 (ar:Int),.bool sb,.bool cb,.bool kb,.bool ob]:=by rw[<- hw2]; exact bQ3 _ _
 have hc1:=hk2;have hc0:Below w.heap.size w w2:=bQ1 hk1 hc1;have gg1:GB w2 w.heap.size 58 n.cells:=hg1.of (hc1.block _ hg1.lt);have g1_1:w2.cell? (aD w.heap.size 1)=some (.int .i64 n.l):=gg1.cell 1;have g1_2:w2.cell? (aD w.heap.size 2)=some (.int .i64 n.r):=gg1.cell 2;have g1_3:w2.cell? (aD w.heap.size 3)=some (.int .i64 n.source):=gg1.cell 3;have g1_4:w2.cell? (aD w.heap.size 4)=some (n.cl.val):=gg1.cell 4;have g1_5:w2.cell? (aD w.heap.size 5)=some (.int .i64 n.key):=gg1.cell 5;have g1_6:w2.cell? (aD w.heap.size 6)=some (n.co.val):=gg1.cell 6;have gg2:=hg2;have g2_0:w2.cell? (aD w1.heap.size 0)=some (.int .i64 (ar:Int)):=gg2.cell 0;have g2_1:w2.cell? (aD w1.heap.size 1)=some (.bool sb):=gg2.cell 1;have g2_2:w2.cell? (aD w1.heap.size 2)=some (.bool cb):=gg2.cell 2;have g2_3:w2.cell? (aD w1.heap.size 3)=some (.bool kb):=gg2.cell 3;have g2_4:w2.cell? (aD w1.heap.size 4)=some (.bool ob):=gg2.cell 4;have HC:Hid _:=hc0;obtain⟨B1,e1⟩:∃ B,B=(decide ((ar:Int)<1)&&(n.l != 0)):=⟨_,rfl⟩
 obtain⟨B2,e2⟩:∃ B,B=(decide ((ar:Int)<2)&&(n.r != 0)):=⟨_,rfl⟩
 obtain⟨B3,e3⟩:∃ B,B=(!sb&&(n.source != 0)):=⟨_,rfl⟩
 obtain⟨B4,e4⟩:∃ B,B=(!kb&&(n.key != 0)):=⟨_,rfl⟩
 obtain⟨B5,e5⟩:∃ B,B=(!cb&&decide (0<n.cl.xs.length)):=⟨_,rfl⟩
 obtain⟨B6,e6⟩:∃ B,B=(!ob&&decide (0<n.co.xs.length)):=⟨_,rfl⟩
 have HV:Hid (hasB ar sb cb kb ob n=[B1,B2,B3,B4,B5,B6]):=by show _=_; unfold hasB; rw[e1,e2,e3,e4,e5,e6]
 have E1:Hid _:=e1;have E2:Hid _:=e2;have E3:Hid _:=e3;have E4:Hid _:=e4;have E5:Hid _:=e5;have E6:Hid _:=e6;generalize hasB ar sb cb kb ob n=L at *;generalize hNC:n.cells=NC at *;clear e1 e2 e3 e4 e5 e6 hNC hg1 hg2 gg1 gg2 hk1 hk2 hc0 hc1;obtain⟨nk,nl,nr,ns,⟨na,nc,nx⟩,ny,⟨oa,oc,ox⟩⟩:=n;unfold IntsV.val at *;simp only at *;go_enter Tryz.func220,Tryz.ntmps220;go_upto_region 1 with fail;go_cut [5] from 6 to 13 (fun c wx=>c=.bool B1/\wx=w2)
 case first=>
  by_cases hg:(ar:Int)<1
  ·have ht:B1=(nl != 0):=by rw[E1.out,decide_eq_true hg,Bool.true_and]
   go_wp2_with fail;go_meet;exact⟨by rw[ht],rfl⟩
  ·have ht:B1=false:=by rw[E1.out,decide_eq_false hg,Bool.false_and]
   go_wp2_with fail;go_meet;exact⟨by rw[ht],rfl⟩
 case rest=>
 obtain⟨rfl,rfl⟩:=hcut
 cases hB1:B1 with
 | true =>
  rw[hB1] at HV;have HF:Hid ((!L.any id)=false):=by show _=_; rw[HV.out]; simp
  clear HV;go_wp2;go_ret;exact⟨ret_bool HF.out.symm,HC.out⟩
 | false =>
 rw[hB1] at HV;clear hB1;go_upto_region 2 with fail;go_cut [5] from 14 to 21 (fun c wx=>c=.bool B2/\wx=wc)
 case first=>
  by_cases hg:(ar:Int)<2
  ·have ht:B2=(nr != 0):=by rw[E2.out,decide_eq_true hg,Bool.true_and]
   go_wp2_with fail;go_meet;exact⟨by rw[ht],rfl⟩
  ·have ht:B2=false:=by rw[E2.out,decide_eq_false hg,Bool.false_and]
   go_wp2_with fail;go_meet;exact⟨by rw[ht],rfl⟩
 case rest=>
 obtain⟨rfl,rfl⟩:=hcut
 cases hB2:B2 with
 | true =>
  rw[hB2] at HV;have HF:Hid ((!L.any id)=false):=by show _=_; rw[HV.out]; simp
  clear HV;go_wp2;go_ret;exact⟨ret_bool HF.out.symm,HC.out⟩
 | false =>
 rw[hB2] at HV;clear hB2;go_upto_region 4 with fail;go_cut [22] from 23 to 30 (fun c wx=>c=.bool B3/\wx=wc)
 case first=>
  cases hg:sb with
  | false =>
   subst hg;have ht:B3=(ns != 0):=by rw[E3.out]; rfl
   go_wp2_with fail;go_meet;exact⟨by rw[ht],rfl⟩
  | true =>
   subst hg;have ht:B3=false:=by rw[E3.out]; rfl
   go_wp2_with fail;go_meet;exact⟨by rw[ht],rfl⟩
 case rest=>
 obtain⟨rfl,rfl⟩:=hcut
 cases hB3:B3 with
 | true =>
  rw[hB3] at HV;have HF:Hid ((!L.any id)=false):=by show _=_; rw[HV.out]; simp
  clear HV;go_wp2;go_ret;exact⟨ret_bool HF.out.symm,HC.out⟩
 | false =>
 rw[hB3] at HV;clear hB3;go_upto_region 5 with fail;go_cut [22] from 31 to 38 (fun c wx=>c=.bool B4/\wx=wc)
 case first=>
  cases hg:kb with
  | false =>
   subst hg;have ht:B4=(ny != 0):=by rw[E4.out]; rfl
   go_wp2_with fail;go_meet;exact⟨by rw[ht],rfl⟩
  | true =>
   subst hg;have ht:B4=false:=by rw[E4.out]; rfl
   go_wp2_with fail;go_meet;exact⟨by rw[ht],rfl⟩
 case rest=>
 obtain⟨rfl,rfl⟩:=hcut
 cases hB4:B4 with
 | true =>
  rw[hB4] at HV;have HF:Hid ((!L.any id)=false):=by show _=_; rw[HV.out]; simp
  clear HV;go_wp2;go_ret;exact⟨ret_bool HF.out.symm,HC.out⟩
 | false =>
 rw[hB4] at HV;clear hB4;go_upto_region 7 with fail;go_cut [39] from 40 to 48 (fun c wx=>c=.bool B5/\wx=wc)
 case first=>
  cases hg:cb with
  | false =>
   subst hg;have ht:B5=(decide (0<nx.length)):=by rw[E5.out]; rfl
   go_wp2_with fail;go_meet;exact⟨by rw[ht],rfl⟩
  | true =>
   subst hg;have ht:B5=false:=by rw[E5.out]; rfl
   go_wp2_with fail;go_meet;exact⟨by rw[ht],rfl⟩
 case rest=>
 obtain⟨rfl,rfl⟩:=hcut
 cases hB5:B5 with
 | true =>
  rw[hB5] at HV;have HF:Hid ((!L.any id)=false):=by show _=_; rw[HV.out]; simp
  clear HV;go_wp2;go_ret;exact⟨ret_bool HF.out.symm,HC.out⟩
 | false =>
 rw[hB5] at HV;clear hB5;go_upto_region 8 with fail;go_cut [39] from 49 to 57 (fun c wx=>c=.bool B6/\wx=wc)
 case first=>
  cases hg:ob with
  | false =>
   subst hg;have ht:B6=(decide (0<ox.length)):=by rw[E6.out]; rfl
   go_wp2_with fail;go_meet;exact⟨by rw[ht],rfl⟩
  | true =>
   subst hg;have ht:B6=false:=by rw[E6.out]; rfl
   go_wp2_with fail;go_meet;exact⟨by rw[ht],rfl⟩
 case rest=>
 obtain⟨rfl,rfl⟩:=hcut
 cases hB6:B6 with
 | true =>
  rw[hB6] at HV;have HF:Hid ((!L.any id)=false):=by show _=_; rw[HV.out]; simp
  clear HV;go_wp2;go_ret;exact⟨ret_bool HF.out.symm,HC.out⟩
 | false =>
 rw[hB6] at HV;clear hB6;have HF:Hid ((!L.any id)=true):=by show _=_; rw[HV.out]; rfl
 clear HV;go_wp2;go_ret;exact⟨ret_bool HF.out.symm,HC.out⟩
theorem Tryz.info3:(Tryz.prog.info? 3).map (fun i=>(i.zero,i.size,i.bytes))=some (some (.int .i64 0),1,8):=by kernel_rfl
theorem Tryz.size3:(Tryz.prog.info? 3).map (·.size)=some 1:=by kernel_rfl
theorem lend_any (ao:Option Addr) (cap:Nat) (xs:List Int) (w:World) (hx:IntsAt w ao xs) (hsz:xs.length*8<=140737488351232) :
  Calls Tryz.prog 38 #[.slice ao xs.length cap] w fun e w'=>e=.returned (.slice (some (aD w.heap.size 0)) xs.length (xs.length+2))/\w' = w.alloc (.cells (lentCells xs) 3):=by
 have hmk:=run_make_row' (P:=Tryz.prog) 23 3 (.int .i64 0) 8 Tryz.underlying23 Tryz.info3 rfl .i64 .i64 (xs.length+2) (by omega) (by omega);have hcast:((xs.length+2:Nat):Int)=(xs.length:Int)+2:=by omega
 rw[hcast] at hmk;have hcp:=fun ty=>run_copy_lend (P:=Tryz.prog) w 23 3 ao cap xs hx Tryz.underlying23 Tryz.size3 ty
 have hs1:=setCell_alloc_lend1 w xs 3;have hs2:=setCell_alloc_lend2 w xs 3;have ha1:=lend1_at xs;have ha2:=lend2_at xs;clear hcast hx;go_enter Tryz.func38,Tryz.ntmps38;go_wp2;go_ret;exact⟨rfl,rfl⟩
end Go.Proofs.YtlpbelhfpoilpaaGreatDoor
namespace Go.Scout
open Go.RowKit
def nilV:Value:=.slice none 0 0
def fillA (L:List Value) (m:Nat):Array Value:=(L++List.replicate m nilV).toArray
theorem fillA_at (L:List Value) (m:Nat):(fillA L (m+1))[L.length]? = some nilV:=by
 unfold fillA;rw[List.getElem?_toArray,List.getElem?_append_right (Nat.le_refl _),Nat.sub_self];rfl
theorem fillA_set (L:List Value) (m:Nat) (v:Value):(fillA L (m+1)).setIfInBounds L.length v=fillA (L++[v]) m:=by
 unfold fillA;rw[List.setIfInBounds_toArray,List.set_append_right _ _ (Nat.le_refl _),Nat.sub_self,List.replicate_succ,List.set_cons_zero,List.append_assoc];rfl
theorem fillA_made (n:Nat):madeCells #[nilV] n=fillA [] n:=by
 rw[madeCells_one];rfl
def LentRow (lo:Nat) (W:World) (tI:TypeId) (r':IntsV) (xs:List Int):Prop:=∃ B,r' = ⟨some (aD B 0),xs.length+2,xs⟩/\lo<B/\GB W B tI (lentCells xs)
def InkAt (lo:Nat) (W:World) (tI:TypeId) (v:Value):Prop:=∃ j,v=.slice (some (aD j 0)) 1 1/\lo<j/\GB W j tI #[.int .i64 77777]
structure LentTab (lo:Nat) (W:World) (tR tI:TypeId) (t':RowsV) (rs:List IntsV) (T:Nat) (v1 v2:Value):Prop where
 ad:t'.ad=some (aD T 0)
 cap:t'.cap=rs.length+2
 len:t'.rs.length=rs.length
 low:lo<T
 rows:∀ j,j<rs.length->LentRow lo W tI (t'.rs.getD j iz) (rs.getD j iz).xs
 blk:GB W T tR (t'.rs.map IntsV.val++[v1,v2]).toArray
 k1:InkAt lo W tI v1
 k2:InkAt lo W tI v2
def StayBut (lo:Nat) (tL:TypeId) (W W':World):Prop:=∀ b,lo<b->b<W.heap.size->(∀ c,W.heap[b]? ≠ some (.cells c tL (0,0)))->W'.heap[b]? = W.heap[b]?
theorem GB.stay {lo:Nat} {tL t:TypeId} {W W':World} {b:Nat} {c:Array Value} (h:GB W b t c) (hs:StayBut lo tL W W') (hl:lo<b) (ht:t≠tL):GB W' b t c:=
 h.of (hs b hl h.lt (fun c' e=>by
  unfold GB at h;rw[h] at e;injection e with e;injection e with _ e;exact ht e))
theorem LentRow.stay {lo:Nat} {tL tI:TypeId} {W W':World} {r':IntsV} {xs:List Int} (h:LentRow lo W tI r' xs) (hs:StayBut lo tL W W') (ht:tI≠tL):LentRow lo W' tI r' xs:=by
 obtain⟨B,h1,h2,h3⟩:=h;exact⟨B,h1,h2,h3.stay hs h2 ht⟩
theorem InkAt.stay {lo:Nat} {tL tI:TypeId} {W W':World} {v:Value} (h:InkAt lo W tI v) (hs:StayBut lo tL W W') (ht:tI≠tL):InkAt lo W' tI v:=by
 obtain⟨B,h1,h2,h3⟩:=h;exact⟨B,h1,h2,h3.stay hs h2 ht⟩
theorem LentTab.stay {lo:Nat} {tL tR tI:TypeId} {W W':World} {t':RowsV} {rs:List IntsV} {T:Nat} {v1 v2:Value} (h:LentTab lo W tR tI t' rs T v1 v2) (hs:StayBut lo tL W W') (ht:tI≠tL) (hr:tR≠tL):LentTab lo W' tR tI t' rs T v1 v2:=
 ⟨h.ad,h.cap,h.len,h.low,fun j hj=>(h.rows j hj).stay hs ht,h.blk.stay hs h.low hr,h.k1.stay hs ht,h.k2.stay hs ht⟩
theorem LentRow.up {lo lo':Nat} {tI:TypeId} {W:World} {r':IntsV} {xs:List Int} (h:LentRow lo W tI r' xs) (hl:lo'<=lo):LentRow lo' W tI r' xs:=by
 obtain⟨B,h1,h2,h3⟩:=h;exact⟨B,h1,by omega,h3⟩
theorem InkAt.up {lo lo':Nat} {tI:TypeId} {W:World} {v:Value} (h:InkAt lo W tI v) (hl:lo'<=lo):InkAt lo' W tI v:=by
 obtain⟨B,h1,h2,h3⟩:=h;exact⟨B,h1,by omega,h3⟩
theorem LentRow.kept {lo:Nat} {tI:TypeId} {W W':World} {r':IntsV} {xs:List Int} (h:LentRow lo W tI r' xs) (hk:∀ b,lo<b->b<W.heap.size->W'.heap[b]? = W.heap[b]?):LentRow lo W' tI r' xs:=by
 obtain⟨B,h1,h2,h3⟩:=h;exact⟨B,h1,h2,h3.of (hk B h2 h3.lt)⟩
theorem InkAt.kept {lo:Nat} {tI:TypeId} {W W':World} {v:Value} (h:InkAt lo W tI v) (hk:∀ b,lo<b->b<W.heap.size->W'.heap[b]? = W.heap[b]?):InkAt lo W' tI v:=by
 obtain⟨B,h1,h2,h3⟩:=h;exact⟨B,h1,h2,h3.of (hk B h2 h3.lt)⟩
theorem LentTab.kept {lo:Nat} {tR tI:TypeId} {W W':World} {t':RowsV} {rs:List IntsV} {T:Nat} {v1 v2:Value} (h:LentTab lo W tR tI t' rs T v1 v2) (hk:∀ b,lo<b->b<W.heap.size->W'.heap[b]? = W.heap[b]?):LentTab lo W' tR tI t' rs T v1 v2:=
 ⟨h.ad,h.cap,h.len,h.low,fun j hj=>(h.rows j hj).kept hk,h.blk.of (hk T h.low h.blk.lt),h.k1.kept hk,h.k2.kept hk⟩
def RowsV.full (t:RowsV):Value:=.slice t.ad (t.rs.length+2) t.cap
structure TState (w00 w0 wr:World) (G tG tL tR tI n:Nat) (gc:Value->Array Value) (db db':List RowsV) (v:Value):Prop where
 bel:Below w00.heap.size w00 wr
 oth:∀ j,j<w0.heap.size->j≠G->wr.heap[j]? = w0.heap[j]?
 siz:w0.heap.size<wr.heap.size
 g:GB wr G tG (gc v)
 row:GB wr w0.heap.size tL (fillA (db'.map RowsV.val) (n+2-db'.length))
 tab:∀ i,i<db'.length->∃ T v1 v2,LentTab w0.heap.size wr tR tI (db'.getD i rz) (db.getD i rz).rs T v1 v2
 own:wr.ownsRow (w0.heap.size+1) tL 1 v db'.length (db'.map RowsV.full)
structure DLent (w00 w0 w':World) (G tG tL tR tI:Nat) (gc:Value->Value->Value->Array Value) (db db':List RowsV) (v u1 u2:Value) (s1 s2:Nat) (x1 x2:Value):Prop where
 bel:Below w00.heap.size w00 w'
 oth:∀ j,j<w0.heap.size->j≠G->w'.heap[j]? = w0.heap[j]?
 siz:w0.heap.size<w'.heap.size
 len:db'.length=db.length
 g:GB w' G tG (gc (.slice (some (aD w0.heap.size 0)) db.length (db.length+2)) (.slice (some (aD w0.heap.size 0)) (db.length+2) (db.length+2)) v)
 row:GB w' w0.heap.size tL (db'.map RowsV.val++[u1,u2]).toArray
 tab:∀ i,i<db'.length->∃ T v1 v2,LentTab w0.heap.size w' tR tI (db'.getD i rz) (db.getD i rz).rs T v1 v2
 own:w'.ownsRow (w0.heap.size+1) tL 1 v db'.length (db'.map RowsV.full)
 e1:u1=.slice (some (aD s1 0)) 1 1
 e2:u2=.slice (some (aD s2 0)) 1 1
 l1:w0.heap.size<s1
 l2:w0.heap.size<s2
 r1:GB w' s1 tR #[x1]
 r2:GB w' s2 tR #[x2]
 k1:InkAt w0.heap.size w' tI x1
 k2:InkAt w0.heap.size w' tI x2
theorem TState.next {w00 w0 wr w5:World} {G tG tL tR tI n:Nat} {gc:Value->Array Value} {db db':List RowsV} {v v':Value} {t':RowsV} {T:Nat} {v1 v2:Value} (h:TState w00 w0 wr G tG tL tR tI n gc db db' v) (hG:G<w0.heap.size) (hGo:w00.heap.size<=G) (hn:db'.length<n) (hR:tR≠tL) (hI:tI≠tL) (hgc:∀ x y,(gc x).setIfInBounds 15 y=gc y)
  {wm:World} (hbm:Below wr.heap.size wr wm) (ht:LentTab w0.heap.size wm tR tI t' (db.getD db'.length rz).rs T v1 v2)
  (hown:w5.ownsRow (w0.heap.size+1) tL 1 v' (db'.length+1) (db'.map RowsV.full++[t'.full])) (hk:Kept (fun b=>v.ownBlock≠some b) wm w5) (hat:v'.ownBlock=v.ownBlock∨v'.ownBlock=some (wm.heap.size+1)) :
  TState w00 w0 (((w5.setCell (aD G 15) v').setCell (aD w0.heap.size db'.length) t'.val).drew) G tG tL tR tI n gc db (db'++[t']) v':=by
 have hsz:=h.siz;have hb0:=h.bel.size;have hmz:=hbm.size;have hkz:=hk.size;have hvo:∀ b,v.ownBlock=some b->w0.heap.size<b:=fun b hb=>by have:=(ownsRow_lt h.own hb).1; omega
 have hv'o:∀ b,v'.ownBlock=some b->w0.heap.size<b:=fun b hb=>by have:=(ownsRow_lt hown hb).1; omega
 have hlow:∀ b,b<=w0.heap.size->v.ownBlock≠some b:=fun b hb e=>by have:=hvo b e; omega
 have hk5:∀ b,b<wr.heap.size->v.ownBlock≠some b->w5.heap[b]? = wr.heap[b]?:=fun b hb hv=>(hk.block b (by omega) hv).trans (hbm.block b hb)
 obtain⟨w6,hw6⟩:∃ w6,w6=((w5.setCell (aD G 15) v').setCell (aD w0.heap.size db'.length) t'.val).drew:=⟨_,rfl⟩
 have hblk:∀ b,b≠G->b≠w0.heap.size->w6.heap[b]? = w5.heap[b]?:=fun b h1 h2=>by
  rw[hw6]
  show ((w5.setCell (aD G 15) v').setCell (aD w0.heap.size db'.length) _).heap[b]? = _
  rw[heap_setCell h2,heap_setCell h1]
 have hs6:w6.heap.size=w5.heap.size:=by rw[hw6]; simp
 have hstay:StayBut w0.heap.size tL wm w6:=fun b hl hb hc=>by
  rw[hblk b (by omega) (by omega)];refine hk.block b hb (fun e=>?_);obtain⟨c,hc'⟩:=own_cells h.own e;have hbw:b<wr.heap.size:=(ownsRow_lt h.own e).2;exact hc c ((hbm.block b hbw).trans hc')
 have hstayR:StayBut w0.heap.size tL wr w6:=fun b hl hb hc=>by
  rw[hstay b hl (by omega) (fun c e=>hc c ((hbm.block b hb).symm.trans e))];exact hbm.block b hb
 rw[<- hw6];refine⟨?_,fun j hj hne=>?_,by omega,?_,?_,fun i hi=>?_,?_⟩
 ·have hb5:Below w00.heap.size w00 w5:=⟨hk.os.trans (hbm.os.trans h.bel.os),hk.tape.trans (hbm.tape.trans h.bel.tape),hk.output.trans (hbm.output.trans h.bel.output),by omega,fun b hb=>(hk5 b (by omega) (hlow b (by omega))).trans (h.bel.block b hb)⟩
  rw[hw6];exact ((hb5.setCell (p:=(aD G 15)) hGo v').setCell (p:=(aD w0.heap.size db'.length)) (by show w00.heap.size<=w0.heap.size; omega) _).drew
 ·rw[hblk j hne (by omega),hk5 j (by omega) (hlow j (by omega))];exact h.oth j hj hne
 ·have h1:GB w5 G tG (gc v):=h.g.of (hk5 G (by omega) (hlow G (by omega)));have h2:=h1.set 15 v';rw[hgc] at h2;rw[hw6];exact GB.of (w:=w5.setCell (aD G 15) v') h2 (heap_setCell (by show G≠w0.heap.size; omega))
 ·have h1:GB (w5.setCell (aD G 15) v') w0.heap.size tL (fillA (db'.map RowsV.val) (n+2-db'.length)):=h.row.of ((heap_setCell (by show w0.heap.size≠G; omega)).trans (hk5 _ hsz (hlow _ (Nat.le_refl _))));have e:n+2-db'.length=(n+2-(db'.length+1))+1:=by omega
  rw[e] at h1;have h2:=h1.set db'.length t'.val;have h3:=fillA_set (db'.map RowsV.val) (n+2-(db'.length+1)) t'.val;rw[List.length_map] at h3;rw[h3] at h2;rw[hw6,List.map_append,List.length_append];exact h2
 ·rw[List.length_append,List.length_singleton] at hi;by_cases hlt:i<db'.length
  ·obtain⟨T',a1,a2,h1⟩:=h.tab i hlt;have e:(db'++[t']).getD i rz=db'.getD i rz:=by simp only[List.getD]; rw[List.getElem?_append_left hlt]
   rw[e];exact⟨T',a1,a2,h1.stay hstayR hI hR⟩
  ·obtain rfl:i=db'.length:=by omega
   have e:(db'++[t']).getD db'.length rz=t':=by simp[List.getD]
   rw[e];exact⟨T,v1,v2,ht.stay hstay hI hR⟩
 ·rw[List.length_append,List.length_singleton,List.map_append];have n1:v'.ownBlock≠some G:=fun e=>by have:=hv'o G e; omega
  have n2:v'.ownBlock≠some w0.heap.size:=fun e=>by have:=hv'o _ e; omega
  rw[hw6];exact (ownsRow_setCell_other (ownsRow_setCell_other hown n1 v') n2 _).drew
theorem TState.pair {wr wa:World} {bd x:Nat} {tI tR:TypeId} (hb:bd<wr.heap.size) (hwa:wa=((wr.setCell (aD bd x) (.slice (some (aD (wr.heap.size+1) 0)) 1 1)).alloc (.cells #[.int .i64 77777] tI)).alloc (.cells #[.slice (some (aD wr.heap.size 0)) 1 1] tR)) :
  wa.heap.size=wr.heap.size+2/\(∀ b,b<wr.heap.size->b≠bd->wa.heap[b]? = wr.heap[b]?)/\wa.heap[bd]? = (wr.setCell (aD bd x) (.slice (some (aD (wr.heap.size+1) 0)) 1 1)).heap[bd]?/\
   GB wa (wr.heap.size+1) tR #[.slice (some (aD wr.heap.size 0)) 1 1]/\InkAt bd wa tI (.slice (some (aD wr.heap.size 0)) 1 1)/\(∀ B w00,B<=bd->Below B w00 wr->Below B w00 wa):=by
 have e1:(wr.setCell (aD bd x) (.slice (some (aD (wr.heap.size+1) 0)) 1 1)).heap.size=wr.heap.size:=by simp
 have e2:((wr.setCell (aD bd x) (.slice (some (aD (wr.heap.size+1) 0)) 1 1)).alloc (.cells #[.int .i64 77777] tI)).heap.size=wr.heap.size+1:=by simp
 refine⟨by rw[hwa]; simp,fun b h1 h2=>?_,?_,?_,⟨wr.heap.size,rfl,hb,?_⟩,fun B w00 hB h=>?_⟩
 ·rw[hwa,heap_alloc (by omega),heap_alloc (by omega),heap_setCell h2]
 ·rw[hwa,heap_alloc (by omega),heap_alloc (by omega)]
 ·have:=bQ3 ((wr.setCell (aD bd x) (.slice (some (aD (wr.heap.size+1) 0)) 1 1)).alloc (.cells #[.int .i64 77777] tI)) (.cells #[.slice (some (aD wr.heap.size 0)) 1 1] tR);rw[e2] at this;rw[hwa];exact this
 ·have:=bQ3 (wr.setCell (aD bd x) (.slice (some (aD (wr.heap.size+1) 0)) 1 1)) (.cells #[.int .i64 77777] tI);rw[e1] at this;rw[hwa];exact (heap_alloc (by omega)).trans this
 ·have h1:=h.setCell (p:=(aD bd x)) hB (.slice (some (aD (wr.heap.size+1) 0)) 1 1);have hs:=h.size;have h2:=h1.alloc (by rw[e1]; omega) (.cells #[.int .i64 77777] tI);have h3:=h2.alloc (by rw[e2]; omega) (.cells #[.slice (some (aD wr.heap.size 0)) 1 1] tR);rw[hwa];exact h3
end Go.Scout
namespace Go.Proofs.YtlpbelhfpoilpaaGreatDoor
open Go.RowKit Go.Scout
theorem Tryz.info140:(Tryz.prog.info? 140).map (fun i=>(i.zero,i.size,i.bytes))=some (some (.agg #[.slice none 0 0]),1,24):=by kernel_rfl
theorem Tryz.info137:(Tryz.prog.info? 137).map (fun i=>(i.zero,i.size,i.bytes))=some (some (.agg #[.bool false,.int .i64 0,.int .i64 0,.bool false,.int .i64 0]),5,40):=by kernel_rfl
theorem Tryz.size137:(Tryz.prog.info? 137).map (·.size)=some 5:=by kernel_rfl
theorem Tryz.info138:(Tryz.prog.info? 138).map (fun i=>(i.zero,i.size,i.bytes))=some (some (.slice none 0 0),1,24):=by kernel_rfl
theorem makeClauses (n:Nat) (h:n*24<=140737488351232) (w:World) :
  (Instr.makeSlice 24 (.int .i64 ((n:Int)+2)) (.int .i64 ((n:Int)+2))).run Tryz.prog w=.ok (.slice (some (aD w.heap.size 0)) (n+2) (n+2)) (w.alloc (.cells (madeCells #[.slice none 0 0] (n+2)) 140)):=by
 obtain⟨i,hi,hz0,hz1,hz2⟩:=info_parts Tryz.info140;have:=run_make (P:=Tryz.prog) w 24 140 i _ Tryz.underlying24 hi hz0 .i64 .i64 ((n:Int)+2) ((n:Int)+2) (by omega) (Int.le_refl _) (by rw[hz2]; omega) (by omega);rw[hz1,show ((n:Int)+2).toNat=n+2 by omega] at this
 simpa [Value.cells] using this
theorem makeConds (n:Nat) (h:n*40<=140737488351232) (w:World) :
  (Instr.makeSlice 138 (.int .i64 ((n:Int)+2)) (.int .i64 ((n:Int)+2))).run Tryz.prog w=.ok (.slice (some (aD w.heap.size 0)) (n+2) (n+2)) (w.alloc (.cells (madeCells zc.toArray ((n+2)*5)) 137)):=by
 obtain⟨i,hi,hz0,hz1,hz2⟩:=info_parts Tryz.info137;have:=run_make (P:=Tryz.prog) w 138 137 i _ Tryz.underlying138 hi hz0 .i64 .i64 ((n:Int)+2) ((n:Int)+2) (by omega) (Int.le_refl _) (by rw[hz2]; omega) (by omega);rw[hz1,show ((n:Int)+2).toNat=n+2 by omega] at this
 simpa [Value.cells,zc] using this
theorem copyConds (w:World) (ao:Option Addr) (cap:Nat) (cs:List CondD) (h:CondsAt w ao cs) (ty:TypeId) :
  (Builtin.copy_ #[138,138] ty #[.slice (some (aD w.heap.size 0)) (cs.length+2) (cs.length+2),.slice ao cs.length cap]).run Tryz.prog (w.alloc (.cells (madeCells zc.toArray ((cs.length+2)*5)) 137)) =
   .ok (goInt cs.length) (w.alloc (.cells (conds1 cs) 137)):=
 run_copy_new (P:=Tryz.prog) w 138 137 5 zc.toArray ao cs.length cap (cs.flatMap CondD.vals) (by omega) rfl (length_flat _ 5 cvals_len cs) (conds_src h) (conds_one cs) Tryz.underlying138 Tryz.size137 ty
theorem clauses_any (w00 w:World) (G:Nat) (ad:Option Addr) (cap:Nat) (ls:List ClauseV) (c0 c1 c2 c3 c4 c5 c6 c7 c8 c9 c10 c11 c13 c14 c15:Value)
  (hx:ClausesAt w00 ad ls) (hsz:ls.length*24<=140737488351232) (hszc:∀ i,i<ls.length->(ls.getD i lz).cs.length*40<=140737488351232)
  (hb:Below w00.heap.size w00 w) (hG0:w00.heap.size<=G) (hG:GB w G 35 #[c0,c1,c2,c3,c4,c5,c6,c7,c8,c9,c10,c11,.slice none 0 0,c13,c14,c15]) :
  Calls Tryz.prog 39 #[.pointer (some (aD G 0)),.slice ad ls.length cap] w fun e w'=>e=.returned (.tuple #[])/\∃ v A b1 b2,CLent w00 w w' G 35 140 138 137 ls.length (fun x y z=>#[c0,c1,x,c3,c4,c5,c6,c7,c8,c9,c10,y,z,c13,c14,c15]) ls v A b1 b2:=by
 have hmk:=makeClauses ls.length hsz;have hl:=hx.1;have hGlt:=hG.lt;have g11:w.cell? (aD G 11)=some c11:=hG.cell 11;have f11:w.frozen? (aD G 11)=false:=hG.frozen 11;go_enter Tryz.func39,Tryz.ntmps39;go_wp2;obtain⟨i0,hi,hz0,hz1,hz2⟩:=info_parts Tryz.info138;go_loopw [5] (fun i wr=>∃ (k:Nat) (v:Value) (A:Nat->Nat),k<=ls.length/\i=.int .i64 k/\CState w00 w wr G 35 140 138 137 ls.length (fun x y=>#[c0,c1,c2,c3,c4,c5,c6,c7,c8,c9,c10,x,y,c13,c14,c15]) ls k v A) (fun i _=>ls.length-(intOf i).toNat)
 case atStart=>exact⟨0,_,_,Nat.zero_le _,rfl,CState.start hb hG0 hG rfl⟩
 case round=>
  obtain⟨k,v,A,hk,rfl,h⟩:=hrel;by_cases hlt:k<ls.length
  ·obtain⟨b,off,rfl,hc⟩:=hx.2.1.get hlt;have hck:=cB h.bel (hc k hlt);have hcd:=(hx.2.2 k hlt).below h.bel;have hszk:=hszc k hlt;generalize hge:ls.getD k lz=cl at *;have HGE:Hid (ls.getD k lz=cl):=hge;clear hge hc;obtain⟨adk,cpk,cs⟩:=cl;unfold ClauseV.val at hck;simp only at hck hcd hszk;have hmk2:=makeConds cs.length hszk;have hcp:=fun ty=>copyConds wr adk cpk cs hcd ty
   have hs1:=setCell_conds1 wr cs 137;have hs2:=setCell_conds2 wr cs 137;have ha1:=conds1_at cs;have ha2:=conds2_at cs;have hcl:=hcd.1;have hGw:G<wr.heap.size:=h.g.lt;have hbw:b<wr.heap.size:=lt_of_cell hck;have g11:wr.cell? (aD G 11)=some (.slice (some (aD w.heap.size 0)) (ls.length+2) (ls.length+2)):=h.g.cell 11;have g12:wr.cell? (aD G 12)=some v:=h.g.cell 12;clear f11 hmk;go_wp2_with (first | (at_builtin; refine wpList_append_own _ rfl (.tmp 50) (.tmp 52) 33 rfl w.heap.size 138 i0 (.slice none 0 0) 1 24 Tryz.underlying33 hi hz0 hz1 hz2 rfl (by decide) _ _ _ rfl ((h.own.alloc _).alloc _) (aD (wr.heap.size+1) 0) 1 1 [.slice (some (aD wr.heap.size 0)) (cs.length+2) (cs.length+2)] rfl rfl ?q1 ?q2 ?q3 ?q4 ?q5 ?_))
   case q1=>
    intro j u hj
    match j,hj with
    | 0,hj => simp at hj; subst hj; simp[Addr.add]
   case q2=>intro u hu; simp at hu; subst hu; rfl
   case q3=>unfold maxLen; omega
   case q4=>omega
   case q5=>have:=h.siz; simp; omega
   intro v' w1 hown1 hgrow1 _;have M:=h.mid (by decide) (by decide) hGlt hG0 hown1 (by simp) hgrow1;obtain⟨g,cap',hv'⟩:=M.sh;have m11:w1.cell? (aD G 11)=some (.slice (some (aD w.heap.size 0)) (ls.length+2) (ls.length+2)):=M.g.cell 11;have m12:w1.cell? (aD G 12)=some v:=M.g.cell 12;have n12:w1.frozen? (aD G 12)=false:=M.g.frozen 12;have mk:w1.cell? (aD w.heap.size k)=some (.slice none 0 0):=by rw[M.row.cell (by omega),if_neg (by omega)]
   have nk:w1.frozen? (aD w.heap.size k)=false:=M.row.frozen k;have hGW:¬ w.heap.size=G:=by omega
   have hGW':¬ G=w.heap.size:=by omega
   rw[hv'];clear hmk2 hcp hs1 hs2 ha1 ha2 g11 g12 hck;go_wp2;go_region;go_wp2;go_roundw
   case rel=>
    have N:=M.next (tA:=138) (fun _ _ _=>rfl) hGlt hG0 (by rw[HGE.out]) (by decide) (by decide) (by decide) hown1;rw[hv'] at N;exact⟨k+1,_,_,by omega,by go_num,N⟩
   case measure=>simp[intOf]; omega
  ·have hkk:k=ls.length:=by omega
   have hGw:G<wr.heap.size:=h.g.lt;have hWw:=h.siz;have g11:wr.cell? (aD G 11)=some (.slice (some (aD w.heap.size 0)) (ls.length+2) (ls.length+2)):=h.g.cell 11;have g2:wr.cell? (aD G 2)=some c2:=h.g.cell 2;have e2:wr.frozen? (aD G 2)=false:=h.g.frozen 2;have mk:wr.cell? (aD w.heap.size ls.length)=some (.slice none 0 0):=by rw[h.row.cell (by omega),if_neg (by omega)]
   have nk:wr.frozen? (aD w.heap.size ls.length)=false:=h.row.frozen _;have mk1:wr.cell? (aD w.heap.size (ls.length+1))=some (.slice none 0 0):=by rw[h.row.cell (by omega),if_neg (by omega)]
   have nk1:wr.frozen? (aD w.heap.size (ls.length+1))=false:=h.row.frozen _;have hGW:¬ w.heap.size=G:=by omega
   have hGW':¬ G=w.heap.size:=by omega
   clear hx hsz hszc hmk;go_wp2;go_end0;subst hkk;exact⟨rfl,_,_,_,_,h.fin (fun _ _ _=>rfl) hGlt hG0 (by decide)⟩
end Go.Proofs.YtlpbelhfpoilpaaGreatDoor
