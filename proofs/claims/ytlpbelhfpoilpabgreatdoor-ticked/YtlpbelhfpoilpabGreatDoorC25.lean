import Derived.Test.YtlpbelhfpoilpabGreatDoorC01
import Derived.Test.YtlpbelhfpoilpabGreatDoorC13
import Derived.Test.YtlpbelhfpoilpabGreatDoorC15
import Derived.Test.YtlpbelhfpoilpabGreatDoorC23
import Derived.Test.YtlpbelhfpoilpabGreatDoorC24
set_option linter.all false
set_option maxRecDepth 100000
set_option maxHeartbeats 16000000
namespace Go.Scout
open Go.RowKit
theorem tasks_own {w:World} {base:Nat} {e:TypeId} {v:Value} {ag:List TaskD} (h:w.ownsRow base e 2 v ag.length (ag.flatMap taskL)) (hl:ag.length<=1000000):∃ ao cap,v=.slice ao ag.length cap/\TasksAt w ao ag:=by
 rcases own_newsN h with⟨rfl,h0⟩ | ⟨g,cap,rfl,_,_,hc⟩
 ·have:ag=[]:=List.eq_nil_of_length_eq_zero h0;subst this;exact⟨none,0,rfl,by simp,fun i hi=>absurd hi (by simp)⟩
 ·refine⟨_,cap,rfl,by omega,fun i hi=>⟨g,0,rfl,?_,?_⟩⟩
  ·rw[Nat.zero_add];exact hc (i*2) _ (by have:=flat_get taskL 2 (fun _=>rfl) (0,0) ag i 0 hi (by omega); rw[Nat.add_zero] at this; rw[this]; rfl)
  ·rw[Nat.zero_add];exact hc (i*2+1) _ (by rw[flat_get taskL 2 (fun _=>rfl) (0,0) ag i 1 hi (by omega)]; rfl)
theorem TasksAt.keptF {A B:World} {F:Nat->Prop} {ao:Option Addr} {ag:List TaskD} (h:TasksAt A ao ag) (hk:Kept F A B) (hF:∀ a,ao=some a->F a.block):TasksAt B ao ag:=
 ⟨h.1,fun i hi=>by
  obtain⟨b,off,rfl,c0,c1⟩:=h.2 i hi;have hb:=hk.block b (cell_lt c0) (hF _ rfl);exact⟨b,off,rfl,by rw[World.cell?_of_block hb]; exact c0,by rw[World.cell?_of_block hb]; exact c1⟩⟩
theorem adds_ok {rk:Nat->Int}:∀ (l ag:List TaskD),(∀ a∈ag,a.1<32/\a.2<32)->(∀ a∈l,a.1<32/\a.2<32)->(∀ a∈l.foldl (addA rk) ag,a.1<32/\a.2<32)/\(l.foldl (addA rk) ag).length<=ag.length+l.length
 | [],_,h,_ => ⟨h,by simp⟩
 | t::l,ag,h,hl => by
  have:=adds_ok (rk:=rk) l (addA rk ag t) (fun a ha=>by
   rcases addA_mem ha with ha | rfl
   ·exact h a ha
   ·exact hl a List.mem_cons_self) (fun a ha=>hl a (List.mem_cons_of_mem _ ha))
  refine⟨this.1,Nat.le_trans this.2 ?_⟩;have:=addA_len rk ag t;simp only[List.length_cons];omega
theorem addA_yes {rk:Nat->Int} {ag:List TaskD} {t:TaskD} (h:thereB rk ag t=true):addA rk ag t=ag:=by unfold addA; rw[if_pos h]
theorem addA_no {rk:Nat->Int} {ag:List TaskD} {t:TaskD} (h:thereB rk ag t=false):addA rk ag t=ag.take (findA rk ag t)++t::ag.drop (findA rk ag t):=by unfold addA; rw[h]; rfl
theorem bsF_le (lt:Nat->Bool):∀ f i j,i<=j->bsF lt f i j<=j
 | 0,_,_,h => h
 | f+1,i,j,h => by
  show (if i<j then _ else _)<=_
  split
  ·split
   ·exact bsF_le lt f _ _ (by omega)
   ·exact Nat.le_trans (bsF_le lt f _ _ (by omega)) (by omega)
  ·exact h
theorem findA_le (rk:Nat->Int) (ag:List TaskD) (t:TaskD):findA rk ag t<=ag.length:=bsF_le _ _ _ _ (Nat.zero_le _)
theorem own_not {w:World} {base:Nat} {e t:TypeId} {sz:Nat} {v:Value} {n:Nat} {xs:List Value} {G:Nat} {c:Array Value} (h:w.ownsRow base e sz v n xs) (hg:GB w G t c) (hne:e≠t):v.ownBlock≠some G:=fun e'=>by
 obtain⟨cur,hc⟩:=own_cellsN h e';have hg':w.heap[G]? = some (.cells c t (0,0)):=hg;rw[hg'] at hc;injection hc with hc;injection hc with _ hc;exact hne hc.symm
theorem add_end {w wr w1 w2 w3 w4:World} {sb base:Nat} {TS TT:TypeId} {arr:Array Value} {av v v':Value} {n:Nat} {xs:List Value} (hsz:14<arr.size) (hg:GB w4 sb TS (arr.setIfInBounds 14 v)) (ho:w4.ownsRow base TT 2 v' n xs) (hk:Kept (fun b=>b≠sb/\av.ownBlock≠some b) w wr) (h1:Below wr.heap.size wr w1) (h2:Below w1.heap.size w1 w2) (h3:Below w2.heap.size w2 w3) (h4:Kept (fun b=>v.ownBlock≠some b) w3 w4) (hv:v.ownBlock=av.ownBlock∨∃ g,v.ownBlock=some g/\w.heap.size<=g) (hv':v'.ownBlock=v.ownBlock∨∃ g,v'.ownBlock=some g/\w3.heap.size<=g) (hne:TT≠TS) :
  GB (w4.setCell (aD sb 14) v') sb TS (arr.setIfInBounds 14 v')/\(w4.setCell (aD sb 14) v').ownsRow base TT 2 v' n xs/\Kept (fun b=>b≠sb/\av.ownBlock≠some b) w (w4.setCell (aD sb 14) v')/\(v'.ownBlock=av.ownBlock∨∃ g,v'.ownBlock=some g/\w.heap.size<=g):=by
 have hw3:w.heap.size<=w3.heap.size:=Nat.le_trans hk.size (Nat.le_trans h1.size (Nat.le_trans h2.size h3.size));have h13:Kept (fun b=>b<wr.heap.size) wr w3:=(Kept.of_below h1 (fun _ h _=>h)).trans' ((Kept.of_below h2 (fun _ h _=>h)).trans' (Kept.of_below h3 (fun _ h _=>h)) (fun b hb _=>hb)) (fun b hb _=>(Nat.lt_of_lt_of_le hb h1.size:b<w1.heap.size));have hkA:Kept (fun b=>b≠sb/\av.ownBlock≠some b) w w4:=(hk.trans' h13 (fun b hb _=>Nat.lt_of_lt_of_le hb hk.size)).trans' h4 (fun b hb h e=>by
  rcases hv with hv | ⟨g,hv,hg⟩
  ·exact h.2 (hv ▸ e)
  ·rw[hv] at e;injection e with e;omega)
 refine⟨?_,?_,hkA.trans (Kept.setCell _ _ _ (fun h=>h.1 rfl)),?_⟩
 ·have:=hg.set 14 v'
  rwa [Array.setIfInBounds_setIfInBounds] at this
 ·exact ownsRow_keep ho (s:=fun b=>b≠sb) (Kept.setCell _ _ _ (fun h=>h rfl)) (fun g e h=>own_not ho hg hne (h ▸ e))
 ·rcases hv' with h | ⟨g,h,hg⟩
  ·rw[h]; exact hv
  ·exact .inr ⟨g,h,Nat.le_trans hw3 hg⟩
end Go.Scout
namespace Go.Proofs.YtlpbelhfpoilpabGreatDoor
open Go.RowKit Go.Scout Go.Shelf
theorem addT_any (sb base:Nat) (arr:Array Value) (av:Value) (ag ts:List TaskD) (ta:Option Addr) (tc:Nat) (w:World) (hg:GB w sb 87 arr) (h14:arr[14]? = some av) (hown:w.ownsRow base 111 2 av ag.length (ag.flatMap taskL)) (hb:base<=w.heap.size) (hts:TasksAt w ta ts) (hta0:∀ a,ta=some a->a.block≠sb/\av.ownBlock≠some a.block) (hl:ag.length+ts.length<=1000000) (ha32:∀ a∈ag,a.1<32/\a.2<32) (ht32:∀ a∈ts,a.1<32/\a.2<32) :
  Calls Tryz.prog 43 #[.pointer (some (aD sb 14)),.slice ta ts.length tc] w fun e w'=>(∃ v,e=.returned v)/\∃ av',GB w' sb 87 (arr.setIfInBounds 14 av')/\w'.ownsRow base 111 2 av' (ts.foldl (addA rkN) ag).length ((ts.foldl (addA rkN) ag).flatMap taskL)/\Kept (fun b=>b≠sb/\av.ownBlock≠some b) w w'/\(av'.ownBlock=av.ownBlock∨∃ g,av'.ownBlock=some g/\w.heap.size<=g):=by
 have HTS:Hid (TasksAt w ta ts):=hts;have HTO:Hid (∀ a,ta=some a->a.block≠sb/\av.ownBlock≠some a.block):=hta0;obtain⟨AK,hAK⟩:∃ X:Nat->List TaskD,X=fun k=>(ts.take k).foldl (addA rkN) ag:=⟨_,rfl⟩
 have HST:Hid (∀ k,k<ts.length->AK (k+1)=addA rkN (AK k) (ts.getD k (0,0))):=fun k hk=>by rw[hAK]; exact foldl_takeR _ ag ts (0,0) hk
 have HOK:Hid (∀ k,(∀ a∈AK k,a.1<32/\a.2<32)/\(AK k).length<=1000000):=fun k=>by
  have:=adds_ok (rk:=rkN) (ts.take k) ag ha32 (fun a ha=>ht32 a (List.mem_of_mem_take ha));rw[hAK];refine⟨this.1,Nat.le_trans this.2 ?_⟩;rw[List.length_take];omega
 have HE:Hid (AK ts.length=ts.foldl (addA rkN) ag):=by
  show _=_
  rw[hAK]
  show (ts.take ts.length).foldl (addA rkN) ag=_
  rw[List.take_length]
 have HT32:Hid (∀ k,k<ts.length->(ts.getD k (0,0)).1<32/\(ts.getD k (0,0)).2<32):=fun k hk=>ht32 _ (getD_memR hk)
 have HLB:Hid (ts.length<=1000000):=by show _<=_; omega
 have HI0:Hid (GB w sb 87 (arr.setIfInBounds 14 av)/\w.ownsRow base 111 2 av (AK 0).length ((AK 0).flatMap taskL)):=by
  refine⟨?_,by rw[hAK]; exact hown⟩;have:arr.setIfInBounds 14 av=arr:=by
   have h1:=Array.getElem?_eq_some_iff.1 h14;obtain⟨hs,he⟩:=h1;rw[<- he];simp[Array.setIfInBounds,hs]
  rw[this];exact hg
 have HSZ:Hid (14<arr.size):=(Array.getElem?_eq_some_iff.1 h14).1;have HBS:Hid (base<=w.heap.size):=hb;have hlb:ts.length<=1000000:=by omega
 clear hts hta0 hAK ha32 ht32 hg h14 hown hl hb;generalize ts.foldl (addA rkN) ag=R at *;go_enter Tryz.func43,Tryz.ntmps43;go_wp2;go_loopw [10] (fun iv wr=>∃ (k:Nat) (avk:Value),k<=ts.length/\iv=.int .i64 (k:Int)/\Hid (GB wr sb 87 (arr.setIfInBounds 14 avk))/\Hid (wr.ownsRow base 111 2 avk (AK k).length ((AK k).flatMap taskL))/\Hid (Kept (fun b=>b≠sb/\av.ownBlock≠some b) w wr)/\Hid (avk.ownBlock=av.ownBlock∨∃ g,avk.ownBlock=some g/\w.heap.size<=g)) (fun iv _=>ts.length-(intOf iv).toNat)
 case atStart=>exact⟨0,av,Nat.zero_le _,rfl,HI0.out.1,HI0.out.2,Kept.refl _ _,.inl rfl⟩
 case round=>
  obtain⟨k,avk,hk,rfl,HG,HO,HK,HV⟩:=hrel;by_cases hlt:k<ts.length
  ·obtain⟨tb,toff,hta0,hc0,hc1⟩:=(HTS.out.keptF HK.out (fun a ha=>HTO.out a ha)).2 k hlt;subst hta0;have HSk:=HST.out k hlt;have H32:=HT32.out k hlt;have HOKk:=HOK.out k;obtain⟨aa,ac,hav,hta⟩:=tasks_own HO.out HOKk.2;subst hav;generalize hgt:ts.getD k (0,0)=t at *;obtain⟨tl,tr⟩:=t;simp only at hc0 hc1 H32;obtain⟨w1,hw1,hb1,hx1⟩:=newB wr #[.int .u64 (tl:Int),.int .u64 (tr:Int)] 111;have b0:w1.cell? (aD wr.heap.size 0)=some (.int .u64 (tl:Int)):=hx1.cell 0;have b1:w1.cell? (aD wr.heap.size 1)=some (.int .u64 (tr:Int)):=hx1.cell 1;have s14:w1.cell? (aD sb 14)=some (.slice aa (AK k).length ac):=by
    refine cB hb1 ?_;rw[HG.out.cell 14,Array.getElem?_setIfInBounds,if_pos rfl,if_pos HSZ.out]
   have HBI:Hid (∀ x,Below w1.heap.size w1 x->Calls Tryz.prog 72 #[.slice aa (AK k).length ac,.agg #[.int .u64 (tl:Int),.int .u64 (tr:Int)],.func (.func 73) #[] #[]] x fun e w'=>e=.returned (.tuple #[.int .i64 (findA rkN (AK k) (tl,tr):Int),.bool (thereB rkN (AK k) (tl,tr))])/\Below x.heap.size x w'):=fun x hx=>binSearch_any aa ac (AK k) (tl,tr) x (hta.below (hb1.trans (hx.mono hb1.size))) HOKk.1 H32
   have HO1:Hid (w1.ownsRow base 111 2 (.slice aa (AK k).length ac) (AK k).length ((AK k).flatMap taskL)):=own_below HO.out hb1;have HG1:Hid (GB w1 sb 87 (arr.setIfInBounds 14 (.slice aa (AK k).length ac))):=HG.out.keep (Kept.of_below (s:=fun b=>b<wr.heap.size) hb1 (fun _ h _=>h)) HG.out.lt;have HX1:Hid (GB w1 wr.heap.size 111 #[.int .u64 (tl:Int),.int .u64 (tr:Int)]):=hx1;have HB1:Hid (Below wr.heap.size wr w1):=hb1;have HINS:Hid (∀ x vb,x.ownsRow base 111 2 (.slice aa (AK k).length ac) (AK k).length ((AK k).flatMap taskL)->base<=x.heap.size->GB x vb 111 #[.int .u64 (tl:Int),.int .u64 (tr:Int)]->(Value.slice aa (AK k).length ac).ownBlock≠some vb->thereB rkN (AK k) (tl,tr)=false->Calls Tryz.prog 74 #[.slice aa (AK k).length ac,.int .i64 (findA rkN (AK k) (tl,tr):Int),.slice (some (aD vb 0)) 1 1] x fun e w'=>∃ v',e=.returned v'/\w'.ownsRow base 111 2 v' (AK (k+1)).length ((AK (k+1)).flatMap taskL)/\Kept (fun b=>(Value.slice aa (AK k).length ac).ownBlock≠some b) x w'/\(v'.ownBlock=(Value.slice aa (AK k).length ac).ownBlock∨∃ g,v'.ownBlock=some g/\x.heap.size<=g)):=fun x vb ho hb hv hne ht=>by
    rw[HSk,addA_no ht];exact insertT_any base _ vb _ (AK k) (tl,tr) x ho hb HOKk.2 (findA_le _ _ _) hv hne
   have HYES:Hid (thereB rkN (AK k) (tl,tr)=true->AK (k+1)=AK k):=fun h=>by rw[HSk]; exact addA_yes h
   have HNS:Hid ((Value.slice aa (AK k).length ac).ownBlock≠some sb):=own_not HO.out HG.out (by decide);have hal:(AK k).length<=1000000:=HOKk.2;generalize findA rkN (AK k) (tl,tr)=FA at *;generalize thereB rkN (AK k) (tl,tr)=TB at *;obtain⟨an,han⟩:∃ an,an=(AK k).length:=⟨_,rfl⟩
   have HLN:Hid ((AK k).length=an):=han.symm;rw[<- han] at s14 HBI HINS HNS HO1 HG1 HV hal HG HO;clear hb1 hx1 hta HOKk HSk H32 hgt han;obtain⟨wq,hwq⟩:∃ x,x=wr:=⟨_,rfl⟩
   subst hwq;go_wp2_with fail;clear hw1;refine wp_region_held_drew (S:=fun x=>Below w1.heap.size w1 x) (by kernel_rfl) ((Below.refl _ _).drew) (fun hS=>?_);refine wT 0 (.pointer (some (aD sb 14))) hS (fun x hx=>?_) ?_
   ·go_simp
   refine wT 1 (.pointer (some (aD sb 14))) hS (fun x hx=>?_) ?_
   ·go_simp
   refine wT 2 (.slice aa an ac) hS (fun x hx=>?_) ?_
   ·have e0:=cB hx s14;go_simp
   refine wT 3 (.agg #[.int .u64 (tl:Int),.int .u64 (tr:Int)]) hS (fun x hx=>?_) ?_
   ·have e0:=cB hx b0;have e1:=cB hx b1;go_simp
   refine wR 4 fun K hK=>?_
   go_simp;refine Calls.mono (HBI.out _ hS) ?_;rintro e w2 ⟨rfl,hb⟩;refine hK.out _ _ (hS.trans (hb.mono hS.size)) (fun hS=>?_);clear hK K;refine wT 5 (.tuple #[.int .i64 (FA:Int),.bool TB]) hS (fun x hx=>?_) ?_
   ·go_simp
   refine wT 6 (.int .i64 (FA:Int)) hS (fun x hx=>?_) ?_
   ·go_simp
   refine wT 7 (.bool TB) hS (fun x hx=>?_) ?_
   ·go_simp
   refine wT 8 (.int .i64 (FA:Int)) hS (fun x hx=>?_) ?_
   ·go_simp
   refine wR 9 fun K hK=>?_
   go_simp;refine hK.out _ _ (hS) (fun hS=>?_);clear hK K;refine wpAnyH_done (by kernel_rfl) ?_ _
   try simp only[Act.put,List.getElem_toArray,List.getElem_cons_succ,List.getElem_cons_zero,List.setIfInBounds_toArray,List.set_cons_succ,List.set_cons_zero]
   try simp only[Act.put,List.getElem_toArray,List.getElem_cons_succ,List.getElem_cons_zero,List.setIfInBounds_toArray,List.set_cons_succ,List.set_cons_zero]
   have HB2:Hid (Below w1.heap.size w1 w2):=hS;clear hS
   cases TB with
   | true =>
    have HE2:Hid (AK (k+1)=AK k):=HYES.out rfl;have HF:Hid (GB w2 sb 87 (arr.setIfInBounds 14 (.slice aa an ac))/\w2.ownsRow base 111 2 (.slice aa an ac) (AK (k+1)).length ((AK (k+1)).flatMap taskL)/\Kept (fun b=>b≠sb/\av.ownBlock≠some b) w w2):=⟨HG1.out.keep (Kept.of_below (s:=fun b=>b<w1.heap.size) HB2.out (fun _ h _=>h)) HG1.out.lt,by rw[HE2.out,HLN.out]; exact own_below HO1.out HB2.out,HK.out.trans ((Kept.of_below HB1.out (fun _ h _=>h)).trans (Kept.of_below HB2.out (fun _ h _=>h)))⟩
    clear b0 b1 s14 HBI HINS hc0 hc1;go_wp2;go_roundw
    case rel=>exact⟨k+1,.slice aa an ac,by omega,by go_num,HF.out.1,HF.out.2.1,HF.out.2.2,HV.out⟩
    case measure=>simp[intOf]; omega
   | false =>
    have hb2:=HB2.out;have c14:=cB hb2 s14;have d0:=cB hb2 b0;have d1:=cB hb2 b1;have HX2:Hid (GB w2 wq.heap.size 111 #[.int .u64 (tl:Int),.int .u64 (tr:Int)]):=HX1.out.keep (Kept.of_below (s:=fun b=>b<w1.heap.size) hb2 (fun _ h _=>h)) HX1.out.lt;have HO2:Hid (w2.ownsRow base 111 2 (.slice aa an ac) an ((AK k).flatMap taskL)):=own_below HO1.out hb2;have HG2:Hid (GB w2 sb 87 (arr.setIfInBounds 14 (.slice aa an ac))):=HG1.out.keep (Kept.of_below (s:=fun b=>b<w1.heap.size) hb2 (fun _ h _=>h)) HG1.out.lt;have HNB:Hid ((Value.slice aa an ac).ownBlock≠some wq.heap.size):=fun e=>by have:=(ownsRow_lt HO.out e).2; omega
    have HSX:Hid (wq.heap.size≠sb):=fun e=>by have:=HG.out.lt; omega
    have c14d:w2.drew.cell? (aD sb 14)=some (.slice aa an ac):=c14;obtain⟨w3,hw3⟩:∃ x,w2.drew.alloc (.cells #[.int .u64 (tl:Int),.int .u64 (tr:Int)] 111)=x:=⟨_,rfl⟩
    have hb3:Below w2.heap.size w2 w3:=by rw[<- hw3]; exact ((Below.refl _ _).drew).alloc (Nat.le_refl _) _
    have c14e:w3.cell? (aD sb 14)=some (.slice aa an ac):=cB hb3 c14;have HB3:Hid (Below w2.heap.size w2 w3):=hb3;have hIN:=HINS.out w3 w2.heap.size (own_below HO2.out hb3) (Nat.le_trans HBS.out (Nat.le_trans HK.out.size (Nat.le_trans HB1.out.size (Nat.le_trans hb2.size hb3.size)))) (by rw[<- hw3]; exact bQ3 w2.drew _) (fun e=>by have:=(ownsRow_lt HO2.out e).2; omega) rfl;clear hb2 hb3 b0 b1 s14 HBI HINS hc0 hc1 c14;go_wp2_with fail;refine wp_region_held_drew (S:=fun x=>Kept (fun b=>b≠sb/\(Value.slice aa an ac).ownBlock≠some b) w2 x) (by kernel_rfl) (Kept.of_below ((Below.refl w2.heap.size w2).drew) (fun _ hl _=>hl)) (fun hS=>?_);refine wT 0 (.pointer (some (aD sb 14))) hS (fun x hx=>?_) ?_
    ·go_simp
    refine wT 1 (.pointer (some (aD sb 14))) hS (fun x hx=>?_) ?_
    ·go_simp
    refine wT 2 (.pointer (some (aD sb 14))) hS (fun x hx=>?_) ?_
    ·go_simp
    refine wT 4 (.int .i64 (FA:Int)) hS (fun x hx=>?_) ?_
    ·go_simp
    refine wT 5 (.agg #[.int .u64 (tl:Int),.int .u64 (tr:Int)]) hS (fun x hx=>?_) ?_
    ·have hbx:=HX2.out.keep hx (show wq.heap.size≠sb/\_ from ⟨HSX.out,HNB.out⟩);have e0:x.cell? (aD wq.heap.size 0)=some (.int .u64 (tl:Int)):=hbx.cell 0;have e1:x.cell? (aD wq.heap.size 1)=some (.int .u64 (tr:Int)):=hbx.cell 1;go_simp
    refine wpAnyH_ready (rs:=[3,6]) (by kernel_rfl) (by simp) ?_;refine AllReadyH.cons rfl (fun K hK=>?_) (AllReadyH.cons rfl (fun K hK=>?_) AllReadyH.nil)
    ·go_simp;refine hK.out _ _ hS (fun hS=>?_);clear hK K;refine wR 6 fun K hK=>?_
     go_simp;refine hK.out _ _ (Kept.of_below HB3.out (fun _ h _=>h)) (fun hS=>?_);clear hK K;refine wR 7 fun K hK=>?_
     go_simp;refine Calls.mono hIN ?_;rintro e w4 ⟨v',rfl,ho4,hk4,hv4⟩;obtain⟨za,zm,zc,rfl⟩:=ownsRow_slice ho4;have hk24:Kept (fun b=>b≠sb/\(Value.slice aa an ac).ownBlock≠some b) w2 w4:=(Kept.of_below HB3.out (fun _ h _=>h)).trans (hk4.mono (fun b _ h=>h.2));refine hK.out _ _ hk24 (fun hS=>?_);clear hK K;refine wT 8 (.pointer (some (aD sb 14))) hS (fun x hx=>?_) ?_
     ·go_simp
     have hg4:GB w4 sb 87 (arr.setIfInBounds 14 (.slice aa an ac)):=HG2.out.keep ((Kept.of_below (s:=fun b=>b=sb) HB3.out (fun b _ h=>by rw[h]; exact HG2.out.lt)).trans (hk4.mono (fun b _ h e=>HNS.out (h ▸ e)))) rfl;have f14:=hg4.frozen 14;have c14f:w4.cell? (aD sb 14)=some (.slice aa an ac):=by rw[hg4.cell 14,Array.getElem?_setIfInBounds,if_pos rfl,if_pos HSZ.out]
     refine wR 9 fun K hK=>?_
     go_simp;refine hK.out _ _ (hk24.trans (Kept.setCell _ _ _ (fun h=>h.1 rfl))) (fun hS=>?_);clear hK K;refine wpAnyH_done (by kernel_rfl) ?_ _
     try simp only[Act.put,List.getElem_toArray,List.getElem_cons_succ,List.getElem_cons_zero,List.setIfInBounds_toArray,List.set_cons_succ,List.set_cons_zero]
     try simp only[Act.put,List.getElem_toArray,List.getElem_cons_succ,List.getElem_cons_zero,List.setIfInBounds_toArray,List.set_cons_succ,List.set_cons_zero]
     have HF:Hid (GB (w4.setCell (aD sb 14) (.slice za zm zc)) sb 87 (arr.setIfInBounds 14 (.slice za zm zc))/\(w4.setCell (aD sb 14) (.slice za zm zc)).ownsRow base 111 2 (.slice za zm zc) (AK (k+1)).length ((AK (k+1)).flatMap taskL)/\Kept (fun b=>b≠sb/\av.ownBlock≠some b) w (w4.setCell (aD sb 14) (.slice za zm zc))/\((Value.slice za zm zc).ownBlock=av.ownBlock∨∃ g,(Value.slice za zm zc).ownBlock=some g/\w.heap.size<=g)):=add_end HSZ.out hg4 ho4 HK.out HB1.out HB2.out HB3.out hk4 HV.out hv4 (by decide);clear hS f14 c14f hg4 ho4 hk4 hv4 hk24 c14d c14e d0 d1 hIN;go_wp2;go_roundw
     case rel=>exact⟨k+1,.slice za zm zc,by omega,by go_num,HF.out.1,HF.out.2.1,HF.out.2.2.1,HF.out.2.2.2⟩
     case measure=>simp[intOf]; omega
    ·go_simp;refine hK.out _ _ (Kept.of_below HB3.out (fun _ h _=>h)) (fun hS=>?_);clear hK K;refine wR 3 fun K hK=>?_
     go_simp;refine hK.out _ _ hS (fun hS=>?_);clear hK K;refine wR 7 fun K hK=>?_
     go_simp;refine Calls.mono hIN ?_;rintro e w4 ⟨v',rfl,ho4,hk4,hv4⟩;obtain⟨za,zm,zc,rfl⟩:=ownsRow_slice ho4;have hk24:Kept (fun b=>b≠sb/\(Value.slice aa an ac).ownBlock≠some b) w2 w4:=(Kept.of_below HB3.out (fun _ h _=>h)).trans (hk4.mono (fun b _ h=>h.2));refine hK.out _ _ hk24 (fun hS=>?_);clear hK K;refine wT 8 (.pointer (some (aD sb 14))) hS (fun x hx=>?_) ?_
     ·go_simp
     have hg4:GB w4 sb 87 (arr.setIfInBounds 14 (.slice aa an ac)):=HG2.out.keep ((Kept.of_below (s:=fun b=>b=sb) HB3.out (fun b _ h=>by rw[h]; exact HG2.out.lt)).trans (hk4.mono (fun b _ h e=>HNS.out (h ▸ e)))) rfl;have f14:=hg4.frozen 14;have c14f:w4.cell? (aD sb 14)=some (.slice aa an ac):=by rw[hg4.cell 14,Array.getElem?_setIfInBounds,if_pos rfl,if_pos HSZ.out]
     refine wR 9 fun K hK=>?_
     go_simp;refine hK.out _ _ (hk24.trans (Kept.setCell _ _ _ (fun h=>h.1 rfl))) (fun hS=>?_);clear hK K;refine wpAnyH_done (by kernel_rfl) ?_ _
     try simp only[Act.put,List.getElem_toArray,List.getElem_cons_succ,List.getElem_cons_zero,List.setIfInBounds_toArray,List.set_cons_succ,List.set_cons_zero]
     try simp only[Act.put,List.getElem_toArray,List.getElem_cons_succ,List.getElem_cons_zero,List.setIfInBounds_toArray,List.set_cons_succ,List.set_cons_zero]
     have HF:Hid (GB (w4.setCell (aD sb 14) (.slice za zm zc)) sb 87 (arr.setIfInBounds 14 (.slice za zm zc))/\(w4.setCell (aD sb 14) (.slice za zm zc)).ownsRow base 111 2 (.slice za zm zc) (AK (k+1)).length ((AK (k+1)).flatMap taskL)/\Kept (fun b=>b≠sb/\av.ownBlock≠some b) w (w4.setCell (aD sb 14) (.slice za zm zc))/\((Value.slice za zm zc).ownBlock=av.ownBlock∨∃ g,(Value.slice za zm zc).ownBlock=some g/\w.heap.size<=g)):=add_end HSZ.out hg4 ho4 HK.out HB1.out HB2.out HB3.out hk4 HV.out hv4 (by decide);clear hS f14 c14f hg4 ho4 hk4 hv4 hk24 c14d c14e d0 d1 hIN;go_wp2;go_roundw
     case rel=>exact⟨k+1,.slice za zm zc,by omega,by go_num,HF.out.1,HF.out.2.1,HF.out.2.2.1,HF.out.2.2.2⟩
     case measure=>simp[intOf]; omega
  ·have hkt:ts.length=k:=by omega
   rw[<- hkt,HE.out] at HO;clear hkt;go_wp2;go_end0;exact⟨⟨_,rfl⟩,avk,HG.out,HO.out,HK.out,HV.out⟩
end Go.Proofs.YtlpbelhfpoilpabGreatDoor
