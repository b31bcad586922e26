import Derived.Test.YtlpbelhfpoilpabGreatDoorC01
import Derived.Test.YtlpbelhfpoilpabGreatDoorC14
import Derived.Test.YtlpbelhfpoilpabGreatDoorC18
import Derived.Test.YtlpbelhfpoilpabGreatDoorC23
set_option linter.all false
set_option maxRecDepth 100000
set_option maxHeartbeats 16000000
namespace Go.Proofs.YtlpbelhfpoilpabGreatDoor
open Go.RowKit Go.Scout Go.Shelf
theorem rank_any (l r:Nat) (hl:l<32) (hr:r<32) (w:World) :
  Calls Tryz.prog 99 #[.agg #[.int .u64 (l:Int),.int .u64 (r:Int)]] w fun e w'=>e=.returned (.int .i64 (rankN rkN (l,r)))/\Below w.heap.size w w':=by
 obtain⟨w1,hw1⟩:∃ x,w.alloc (.cells #[.int .u64 (l:Int),.int .u64 (r:Int)] 111)=x:=⟨_,rfl⟩
 have hb1:Below w.heap.size w w1:=by rw[<- hw1]; exact bQ2 _ _
 have c0:w1.cell? (aD w.heap.size 0)=some (.int .u64 (l:Int)):=by rw[<- hw1]; simp
 have c1:w1.cell? (aD w.heap.size 1)=some (.int .u64 (r:Int)):=by rw[<- hw1]; simp
 have hSC:=isScan_any l r w1;have HB1:Hid (Below w.heap.size w w1):=hb1;have HR:Hid (rankN rkN (l,r)=if r=0 then 6 else rkN (l|||r)):=rfl;have hor:l|||r<32:=or_lt (n:=5) hl hr
 generalize rankN rkN (l,r)=R at *;clear hb1;by_cases h0:r=0
 ·have HV:Hid (R=6):=by show _=_; rw[HR.out,if_pos h0]
  rw[decide_eq_true h0] at hSC;clear h0 HR;go_enter Tryz.func99,Tryz.ntmps99;go_wp2_with fail;refine hSC.mono ?_;rintro e w2 ⟨rfl,hb2⟩;have HB2:Hid _:=bQ1 HB1.out hb2;clear hSC hb2 hw1;go_wp2;go_ret;exact⟨ret_int HV.out.symm,HB2.out⟩
 ·have HV:Hid (R=rkN (l|||r)):=by show _=_; rw[HR.out,if_neg h0]
  rw[decide_eq_false h0] at hSC;clear h0 HR;go_enter Tryz.func99,Tryz.ntmps99;go_wp2_with fail;refine hSC.mono ?_;rintro e w2 ⟨rfl,hb2⟩;have HB2:Hid (Below w.heap.size w w2):=bQ1 HB1.out hb2;have d0:=cB hb2 c0;have d1:=cB hb2 c1;obtain⟨w3,hw3⟩:∃ x,w2.alloc (.cells #[.int .u64 (l:Int),.int .u64 (r:Int)] 75)=x:=⟨_,rfl⟩
  have HB3:Hid (Below w.heap.size w w3):=bQ1 HB2.out (by rw[<- hw3]; exact bQ2 _ _);have hUN:=union_two w2.heap.size l r w3 (by rw[<- hw3]; simp) (by rw[<- hw3]; simp) (by omega) (by omega);have hCN:=count_any (l|||r) hor w3;rw[<- HV.out] at hCN;generalize l|||r=lr at *
  clear hSC hb2 hw1 c0 c1 HV;go_wp2_with fail;refine hUN.mono ?_;rintro e w4 ⟨rfl,hw4⟩;have hw4:=hw4.symm;subst hw4;go_wp2_with fail;refine hCN.mono ?_;rintro e w4 ⟨rfl,hw4⟩;have hw4:=hw4.symm;subst hw4;clear hUN hCN hw3;go_wp2;go_ret;exact⟨rfl,HB3.out⟩
theorem ahead_any (a b:TaskD) (ha:a.1<32/\a.2<32) (hb:b.1<32/\b.2<32) (w:World) :
  Calls Tryz.prog 73 #[.agg #[.int .u64 (a.1:Int),.int .u64 (a.2:Int)],.agg #[.int .u64 (b.1:Int),.int .u64 (b.2:Int)]] w fun e w'=>e=.returned (.int .i64 (aheadI rkN a b))/\Below w.heap.size w w':=by
 have HRA:Hid (∀ x,Calls Tryz.prog 99 #[.agg #[.int .u64 (a.1:Int),.int .u64 (a.2:Int)]] x fun e w'=>e=.returned (.int .i64 (rankN rkN a))/\Below x.heap.size x w'):=fun x=>rank_any a.1 a.2 ha.1 ha.2 x
 have HRB:Hid (∀ x,Calls Tryz.prog 99 #[.agg #[.int .u64 (b.1:Int),.int .u64 (b.2:Int)]] x fun e w'=>e=.returned (.int .i64 (rankN rkN b))/\Below x.heap.size x w'):=fun x=>rank_any b.1 b.2 hb.1 hb.2 x
 have HR:Hid (aheadI rkN a b=if cmpI (rankN rkN b) (rankN rkN a)≠0 then cmpI (rankN rkN b) (rankN rkN a) else if cmpI a.1 b.1≠0 then cmpI a.1 b.1 else cmpI a.2 b.2):=rfl;have HC1:Hid (∀ x,Calls Tryz.prog 98 #[.int .i64 (rankN rkN b),.int .i64 (rankN rkN a)] x fun e w'=>e=.returned (.int .i64 (cmpI (rankN rkN b) (rankN rkN a)))/\w' = x):=fun x=>compareI_any _ _ x
 have HC2:Hid (∀ x,Calls Tryz.prog 100 #[.int .u64 (a.1:Int),.int .u64 (b.1:Int)] x fun e w'=>e=.returned (.int .i64 (cmpI a.1 b.1))/\w' = x):=fun x=>compareU_any _ _ x
 have HC3:Hid (∀ x,Calls Tryz.prog 100 #[.int .u64 (a.2:Int),.int .u64 (b.2:Int)] x fun e w'=>e=.returned (.int .i64 (cmpI a.2 b.2))/\w' = x):=fun x=>compareU_any _ _ x
 generalize aheadI rkN a b=R at *;generalize rankN rkN a=RA at *;generalize rankN rkN b=RB at *;obtain⟨al,ar⟩:=a;obtain⟨bl,br⟩:=b;simp only at *;generalize cmpI RB RA=C1 at *;generalize cmpI (al:Int) (bl:Int)=C2 at *;generalize cmpI (ar:Int) (br:Int)=C3 at *;have HOR:Hid (∀ (x:World) (c:Nat),x.cell? (aD c 0)=some (.int .i64 C1)->x.cell? (aD c 1)=some (.int .i64 C2)->x.cell? (aD c 2)=some (.int .i64 C3)->Calls Tryz.prog 97 #[.slice (some (aD c 0)) 3 3] x fun e w'=>e=.returned (.int .i64 R)/\w' = x):=fun x c h0 h1 h2=>by
  rw[HR.out];exact or3_any c C1 C2 C3 x h0 h1 h2
 clear HR ha hb;obtain⟨w1,hw1,hb1,hg1⟩:=newB w #[.int .u64 (al:Int),.int .u64 (ar:Int)] 111;obtain⟨w2,hw2,hb2,hg2⟩:=newB w1 #[.int .u64 (bl:Int),.int .u64 (br:Int)] 111;have hg1':=hg1.of (hb2.block _ hg1.lt);have a0:w2.cell? (aD w.heap.size 0)=some (.int .u64 (al:Int)):=hg1'.cell 0;have a1:w2.cell? (aD w.heap.size 1)=some (.int .u64 (ar:Int)):=hg1'.cell 1;have b0:w2.cell? (aD w1.heap.size 0)=some (.int .u64 (bl:Int)):=hg2.cell 0;have b1:w2.cell? (aD w1.heap.size 1)=some (.int .u64 (br:Int)):=hg2.cell 1;have HB2:Hid (Below w.heap.size w w2):=bQ1 hb1 hb2;clear hb1 hb2 hg1 hg2 hg1';go_enter Tryz.func73,Tryz.ntmps73;go_wp2_with fail;clear hw1 hw2;refine wp_region_held_drew (S:=fun x=>Below w2.heap.size w2 x) (by kernel_rfl) ((Below.refl _ _).drew) (fun hS=>?_);refine wT 0 (.agg #[.int .u64 (bl:Int),.int .u64 (br:Int)]) hS (fun x hx=>?_) ?_
 ·have e0:=cB hx b0;have e1:=cB hx b1;go_simp
 refine wT 2 (.agg #[.int .u64 (al:Int),.int .u64 (ar:Int)]) hS (fun x hx=>?_) ?_
 ·have e0:=cB hx a0;have e1:=cB hx a1;go_simp
 refine wT 5 (.pointer (some (aD w.heap.size 0))) hS (fun x hx=>?_) ?_
 ·go_simp
 refine wT 6 (.int .u64 (al:Int)) hS (fun x hx=>?_) ?_
 ·have e0:=cB hx a0;go_simp
 refine wT 7 (.pointer (some (aD w1.heap.size 0))) hS (fun x hx=>?_) ?_
 ·go_simp
 refine wT 8 (.int .u64 (bl:Int)) hS (fun x hx=>?_) ?_
 ·have e0:=cB hx b0;go_simp
 refine wT 10 (.pointer (some (aD w.heap.size 1))) hS (fun x hx=>?_) ?_
 ·go_simp
 refine wT 11 (.int .u64 (ar:Int)) hS (fun x hx=>?_) ?_
 ·have e0:=cB hx a1;go_simp
 refine wT 12 (.pointer (some (aD w1.heap.size 1))) hS (fun x hx=>?_) ?_
 ·go_simp
 refine wT 13 (.int .u64 (br:Int)) hS (fun x hx=>?_) ?_
 ·have e0:=cB hx b1;go_simp
 refine wR 1 fun K hK=>?_
 go_simp;refine Calls.mono (HRB.out _) ?_;rintro e w3 ⟨rfl,hb⟩;refine hK.out _ _ (hS.trans (hb.mono hS.size)) (fun hS=>?_);clear hK K;refine wR 3 fun K hK=>?_
 go_simp;refine Calls.mono (HRA.out _) ?_;rintro e w4 ⟨rfl,hb⟩;refine hK.out _ _ (hS.trans (hb.mono hS.size)) (fun hS=>?_);clear hK K;refine wR 4 fun K hK=>?_
 go_simp;refine Calls.mono (HC1.out _) ?_;rintro e w5 ⟨rfl,hw5⟩;have hww:=hw5.symm;subst hww;refine hK.out _ _ (hS) (fun hS=>?_);clear hK K;refine wR 9 fun K hK=>?_
 go_simp;refine Calls.mono (HC2.out _) ?_;rintro e w6 ⟨rfl,hw6⟩;have hww:=hw6.symm;subst hww;refine hK.out _ _ (hS) (fun hS=>?_);clear hK K;refine wR 14 fun K hK=>?_
 go_simp;refine Calls.mono (HC3.out _) ?_;rintro e w7 ⟨rfl,hw7⟩;have hww:=hw7.symm;subst hww;refine hK.out _ _ (hS) (fun hS=>?_);clear hK K;refine wR 15 fun K hK=>?_
 go_simp;refine hK.out _ _ (hS.trans (bQ2 _ _ |>.mono hS.size)) (fun hS=>?_);clear hK K;refine wR 16 fun K hK=>?_
 go_simp;refine Calls.mono (HOR.out _ _ (by simp) (by simp) (by simp)) ?_;rintro e w8 ⟨rfl,hw8⟩;have hww:=hw8.symm;subst hww;refine hK.out _ _ (hS) (fun hS=>?_);clear hK K;refine wR 17 fun K hK=>?_
 go_simp;refine hK.out _ _ (hS) (fun hS=>?_);clear hK K;refine wpAnyH_done (by kernel_rfl) ?_ _
 try simp only[Act.put,List.getElem_toArray,List.getElem_cons_succ,List.getElem_cons_zero,List.setIfInBounds_toArray,List.set_cons_succ,List.set_cons_zero]
 have HF:Hid _:=bQ1 HB2.out hS;clear hS;go_wp2;go_ret;exact⟨rfl,HF.out⟩
end Go.Proofs.YtlpbelhfpoilpabGreatDoor
namespace Go.Scout
open Go.RowKit
def TasksAt (w:World) (ao:Option Addr) (ag:List TaskD):Prop:=
 ag.length<=1000000000/\∀ i,i<ag.length->∃ b off,ao=some (aD b off)/\w.cell? (aD b (off+i*2))=some (.int .u64 ((ag.getD i (0,0)).1:Int))/\w.cell? (aD b (off+i*2+1))=some (.int .u64 ((ag.getD i (0,0)).2:Int))
theorem TasksAt.below {w w':World} (hb:Below w.heap.size w w') {ao:Option Addr} {ag:List TaskD} (h:TasksAt w ao ag):TasksAt w' ao ag:=
 ⟨h.1,fun i hi=>by obtain⟨b,off,e,c0,c1⟩:=h.2 i hi; exact⟨b,off,e,cB hb c0,cB hb c1⟩⟩
theorem bsF_step (lt:Nat->Bool) (f i j:Nat) (h:i<j):bsF lt (f+1) i j=if lt ((i+j) / 2)=true then bsF lt f ((i+j) / 2+1) j else bsF lt f i ((i+j) / 2):=by
 show (if i<j then _ else _)=_
 rw[if_pos h]
theorem bsF_end (lt:Nat->Bool) (f i j:Nat) (h:¬ i<j):bsF lt f i j=i:=by
 cases f with
 | zero => rfl
 | succ f =>
  show (if i<j then _ else _)=_
  rw[if_neg h]
end Go.Scout
namespace Go.Proofs.YtlpbelhfpoilpabGreatDoor
open Go.RowKit Go.Scout Go.Shelf
theorem binSearch_any (ao:Option Addr) (cap:Nat) (ag:List TaskD) (t:TaskD) (w:World) (hx:TasksAt w ao ag) (ha:∀ a∈ag,a.1<32/\a.2<32) (ht:t.1<32/\t.2<32) :
  Calls Tryz.prog 72 #[.slice ao ag.length cap,.agg #[.int .u64 (t.1:Int),.int .u64 (t.2:Int)],.func (.func 73) #[] #[]] w fun e w'=>e=.returned (.tuple #[.int .i64 (findA rkN ag t:Int),.bool (thereB rkN ag t)])/\Below w.heap.size w w':=by
 have HAH:Hid (∀ k x,k<ag.length->Calls Tryz.prog 73 #[.agg #[.int .u64 ((ag.getD k (0,0)).1:Int),.int .u64 ((ag.getD k (0,0)).2:Int)],.agg #[.int .u64 (t.1:Int),.int .u64 (t.2:Int)]] x fun e w'=>e=.returned (.int .i64 (aheadI rkN (ag.getD k (0,0)) t))/\Below x.heap.size x w'):=fun k x hk=>ahead_any _ t (ha _ (getD_memR hk)) ht x
 have HF:Hid (findA rkN ag t=bsF (fun h=>decide (aheadI rkN (ag.getD h (0,0)) t<0)) ag.length 0 ag.length):=rfl;have HT:Hid (thereB rkN ag t=(decide (findA rkN ag t<ag.length)&&decide (aheadI rkN (ag.getD (findA rkN ag t) (0,0)) t=0))):=rfl;have hl:=hx.1;have HX:Hid (TasksAt w ao ag):=hx;generalize thereB rkN ag t=TB at *;generalize findA rkN ag t=FA at *;obtain⟨tl,tr⟩:=t;simp only at *;obtain⟨AI,hAI⟩:∃ AI:Nat->Int,AI=fun k=>aheadI rkN (ag.getD k (0,0)) (tl,tr):=⟨_,rfl⟩
 have HAH2:Hid (∀ k x,k<ag.length->Calls Tryz.prog 73 #[.agg #[.int .u64 ((ag.getD k (0,0)).1:Int),.int .u64 ((ag.getD k (0,0)).2:Int)],.agg #[.int .u64 (tl:Int),.int .u64 (tr:Int)]] x fun e w'=>e=.returned (.int .i64 (AI k))/\Below x.heap.size x w'):=by rw[hAI]; exact HAH.out
 have HF2:Hid (FA=bsF (fun h=>decide (AI h<0)) ag.length 0 ag.length):=by rw[hAI]; exact HF.out
 have HT2:Hid (TB=(decide (FA<ag.length)&&decide (AI FA=0))):=by rw[hAI]; exact HT.out
 clear hAI HAH HF HT hx ha ht;obtain⟨w1,hw1⟩:∃ x,w.alloc (.cells #[.int .u64 (tl:Int),.int .u64 (tr:Int)] 111)=x:=⟨_,rfl⟩
 have hb1:Below w.heap.size w w1:=by rw[<- hw1]; exact bQ2 _ _
 have t0:w1.cell? (aD w.heap.size 0)=some (.int .u64 (tl:Int)):=by rw[<- hw1]; simp
 have t1:w1.cell? (aD w.heap.size 1)=some (.int .u64 (tr:Int)):=by rw[<- hw1]; simp
 have HB1:Hid (Below w.heap.size w w1):=hb1;clear hb1;go_enter Tryz.func72,Tryz.ntmps72;go_wp2;clear hw1;go_loopw [9,10] (fun iv jv wr=>∃ i j f:Nat,i<=j/\j<=ag.length/\j-i<=f/\iv=.int .i64 (i:Int)/\jv=.int .i64 (j:Int)/\Hid (bsF (fun h=>decide (AI h<0)) f i j=FA)/\Hid (Below w1.heap.size w1 wr)) (fun iv jv _=>(intOf jv).toNat-(intOf iv).toNat)
 case atStart=>exact⟨0,ag.length,ag.length,Nat.zero_le _,Nat.le_refl _,by omega,rfl,rfl,HF2.out.symm,Below.refl _ _⟩
 case round=>
  obtain⟨i,j,f,hij,hjn,hf,rfl,rfl,HBS,HB⟩:=hrel;by_cases hlt:i<j
  ·obtain⟨f',rfl⟩:∃ f',f=f'+1:=⟨f-1,by omega⟩
   have HST:Hid _:=(bsF_step (fun h=>decide (AI h<0)) f' i j hlt).symm.trans HBS.out;obtain⟨h,hh⟩:∃ h,(i+j) / 2=h:=⟨_,rfl⟩
   have hhi:i<=h/\h<j:=by omega
   rw[hh] at HST;have hw1:wrap64 ((i:Int)+(j:Int))=((i+j:Nat):Int):=by unfold wrap64; omega
   have hmid:((i:Int)+(j:Int)) / 2=(h:Int):=by omega
   have hhn:h<ag.length:=by omega
   obtain⟨b,off,hao,c0,c1⟩:=(TasksAt.below (bQ1 HB1.out HB.out) HX.out).2 h hhn;subst hao;have hAH:=HAH2.out h;generalize (ag.getD h (0,0)).1=xl at *;generalize (ag.getD h (0,0)).2=xr at *;have s0:=cB HB.out t0;have s1:=cB HB.out t1;have hlt2:(h:Int)<(ag.length:Int):=by omega
   have HAHh:Hid _:=fun x=>hAH x hhn
   obtain⟨wq,hwq⟩:∃ x,x=wr:=⟨_,rfl⟩
   subst hwq;obtain⟨v,hv⟩:∃ v,AI h=v:=⟨_,rfl⟩
   rw[hv] at HAHh;simp only[hv] at HST;have HSTv:Hid _:=HST;clear hAH hw1 HST hv;go_wp2_with fail
   try rw[hmid]
   refine wp_region_held_drew (S:=fun x=>Below wq.heap.size wq x) (by kernel_rfl) ((Below.refl _ _).drew) (fun hS=>?_);refine wT 0 (.func (.func 73) #[] #[]) hS (fun x hx=>?_) ?_
   ·go_simp
   refine wT 1 (.slice (some (aD b off)) ag.length cap) hS (fun x hx=>?_) ?_
   ·go_simp
   refine wT 2 (.int .i64 (h:Int)) hS (fun x hx=>?_) ?_
   ·go_simp
   refine wT 3 (.pointer (some (aD b (off+h*2)))) hS (fun x hx=>?_) ?_
   ·go_simp
   refine wT 4 (.agg #[.int .u64 (xl:Int),.int .u64 (xr:Int)]) hS (fun x hx=>?_) ?_
   ·have e0:=cB hx c0;have e1:=cB hx c1;go_simp
   refine wT 5 (.agg #[.int .u64 (tl:Int),.int .u64 (tr:Int)]) hS (fun x hx=>?_) ?_
   ·have e0:=cB hx s0;have e1:=cB hx s1;go_simp
   refine wR 6 fun K hK=>?_
   go_simp;refine Calls.mono (HAHh.out _) ?_;rintro e w2 ⟨rfl,hb⟩;refine hK.out _ _ (hS.trans (hb.mono hS.size)) (fun hS=>?_);clear hK K;refine wR 7 fun K hK=>?_
   go_simp;refine hK.out _ _ (hS) (fun hS=>?_);clear hK K;refine wpAnyH_done (by kernel_rfl) ?_ _
   try simp only[Act.put,List.getElem_toArray,List.getElem_cons_succ,List.getElem_cons_zero,List.setIfInBounds_toArray,List.set_cons_succ,List.set_cons_zero]
   have HB2:Hid (Below w1.heap.size w1 w2):=HB.out.trans (hS.mono HB.out.size);clear hS c0 c1 s0 s1 hmid;by_cases hv0:v<0
   ·have HN:Hid (bsF (fun h=>decide (AI h<0)) f' (h+1) j=FA):=by
     have:=HSTv.out;rw[if_pos (decide_eq_true hv0)] at this;exact this
    have hvb:decide (v<0)=true:=decide_eq_true hv0;clear HSTv;go_wp2;go_roundw
    case rel=>exact⟨h+1,j,f',by omega,hjn,by omega,by go_num,rfl,HN.out,HB2.out⟩
    case measure=>simp[intOf]; omega
   ·have HN:Hid (bsF (fun h=>decide (AI h<0)) f' i h=FA):=by
     have:=HSTv.out;rw[if_neg (by rw[decide_eq_false hv0]; decide)] at this;exact this
    have hvb:decide (v<0)=false:=decide_eq_false hv0;clear HSTv;go_wp2;go_roundw
    case rel=>exact⟨i,h,f',by omega,by omega,by omega,rfl,rfl,HN.out,HB2.out⟩
    case measure=>simp[intOf]; omega
  ·have hiF:i=FA:=(bsF_end _ f i j hlt).symm.trans HBS.out;subst hiF;obtain⟨wq,hwq⟩:∃ x,x=wr:=⟨_,rfl⟩
   subst hwq;have HBq:Hid (Below w.heap.size w wq):=bQ1 HB1.out HB.out;by_cases hin:i<ag.length
   ·obtain⟨b,off,hao,c0,c1⟩:=(TasksAt.below HBq.out HX.out).2 i hin;subst hao;have HAHh:Hid _:=fun x=>HAH2.out i x hin
    generalize (ag.getD i (0,0)).1=xl at *;generalize (ag.getD i (0,0)).2=xr at *;have s0:=cB HB.out t0;have s1:=cB HB.out t1;have hlt2:(i:Int)<(ag.length:Int):=by omega
    have HTT:Hid (TB=(AI i==0)):=by show _=_; rw[HT2.out,decide_eq_true hin,Bool.true_and,Bool.eq_iff_iff,beq_iff_eq,decide_eq_true_eq]
    generalize AI i=v at *;clear HT2 HF2 HBS;go_wp2_with fail;refine wp_region_held_drew (S:=fun x=>Below wq.heap.size wq x) (by kernel_rfl) ((Below.refl _ _).drew) (fun hS=>?_);refine wT 0 (.int .i64 (i:Int)) hS (fun x hx=>?_) ?_
    ·go_simp
    refine wT 1 (.int .i64 (i:Int)) hS (fun x hx=>?_) ?_
    ·go_simp
    refine wT 2 (.int .i64 (ag.length:Int)) hS (fun x hx=>?_) ?_
    ·go_simp
    refine wT 3 (.bool true) hS (fun x hx=>?_) ?_
    ·go_simp
    refine wT 4 (.bool true) hS (fun x hx=>?_) ?_
    ·go_simp
    refine wG 5 (.func (.func 73) #[] #[]) hS (fun x hx=>?_) ?_
    ·go_simp
    refine wG 6 (.slice (some (aD b off)) ag.length cap) hS (fun x hx=>?_) ?_
    ·go_simp
    refine wG 7 (.int .i64 (i:Int)) hS (fun x hx=>?_) ?_
    ·go_simp
    refine wG 8 (.pointer (some (aD b (off+i*2)))) hS (fun x hx=>?_) ?_
    ·go_simp
    refine wG 9 (.agg #[.int .u64 (xl:Int),.int .u64 (xr:Int)]) hS (fun x hx=>?_) ?_
    ·have e0:=cB hx c0;have e1:=cB hx c1;go_simp
    refine wG 10 (.agg #[.int .u64 (tl:Int),.int .u64 (tr:Int)]) hS (fun x hx=>?_) ?_
    ·have e0:=cB hx s0;have e1:=cB hx s1;go_simp
    refine wR 11 fun K hK=>?_
    go_simp;refine Calls.mono (HAHh.out _) ?_;rintro e w2 ⟨rfl,hb⟩;refine hK.out _ _ (hS.trans (hb.mono hS.size)) (fun hS=>?_);clear hK K;refine wG 12 (.bool (v==0)) hS (fun x hx=>?_) ?_
    ·go_simp
    refine wG 13 (.bool (v==0)) hS (fun x hx=>?_) ?_
    ·go_simp
    refine wR 14 fun K hK=>?_
    go_simp;refine hK.out _ _ (hS) (fun hS=>?_);clear hK K;refine wR 15 fun K hK=>?_
    go_simp;refine hK.out _ _ (hS) (fun hS=>?_);clear hK K;refine wpAnyH_done (by kernel_rfl) ?_ _
    try simp only[Act.put,List.getElem_toArray,List.getElem_cons_succ,List.getElem_cons_zero,List.setIfInBounds_toArray,List.set_cons_succ,List.set_cons_zero]
    have HBE:Hid (Below w.heap.size w w2):=HBq.out.trans (hS.mono HBq.out.size);clear hS;go_wp2;go_ret2;exact⟨by rw[HTT.out]; rfl,HBE.out⟩
   ·have HTT:Hid (TB=false):=by show _=_; rw[HT2.out,decide_eq_false hin,Bool.false_and]
    have hin2:¬ (i:Int)<(ag.length:Int):=by omega
    clear HT2 HF2 HBS;go_wp2_with fail;refine wp_region_held_drew (S:=fun x=>Below wq.heap.size wq x) (by kernel_rfl) ((Below.refl _ _).drew) (fun hS=>?_);refine wT 0 (.int .i64 (i:Int)) hS (fun x hx=>?_) ?_
    ·go_simp
    refine wT 1 (.int .i64 (i:Int)) hS (fun x hx=>?_) ?_
    ·go_simp
    refine wT 2 (.int .i64 (ag.length:Int)) hS (fun x hx=>?_) ?_
    ·go_simp
    refine wT 3 (.bool false) hS (fun x hx=>?_) ?_
    ·go_simp
    refine wT 4 (.bool false) hS (fun x hx=>?_) ?_
    ·go_simp
    refine wU 5 hS ?_;refine wU 6 hS ?_;refine wU 7 hS ?_;refine wU 8 hS ?_;refine wU 9 hS ?_;refine wU 10 hS ?_;refine wU 11 hS ?_;refine wU 12 hS ?_;refine wT 13 (.bool false) hS (fun x hx=>?_) ?_
    ·go_simp
    refine wR 14 fun K hK=>?_
    go_simp;refine hK.out _ _ (hS) (fun hS=>?_);clear hK K;refine wR 15 fun K hK=>?_
    go_simp;refine hK.out _ _ (hS) (fun hS=>?_);clear hK K;refine wpAnyH_done (by kernel_rfl) ?_ _
    try simp only[Act.put,List.getElem_toArray,List.getElem_cons_succ,List.getElem_cons_zero,List.setIfInBounds_toArray,List.set_cons_succ,List.set_cons_zero]
    have HBE:Hid (Below w.heap.size w wq.drew):=HBq.out.trans (hS.mono HBq.out.size);clear hS;go_wp2;go_ret2;exact⟨by rw[HTT.out]; rfl,HBE.out⟩
end Go.Proofs.YtlpbelhfpoilpabGreatDoor
namespace Go.Scout
open Go.RowKit
def TaskOk (n:Nat) (gs:List (List PlaceD)) (t:TaskD):Prop:=
 (t.2=0/\∃ i,i<n/\t.1=2 ^ i)∨
 (t.2≠0/\t.1<gs.length/\t.2<gs.length/\t.1 &&& t.2=0/\(headP (gs.getD t.1 [])).isSome=true/\(headP (gs.getD t.2 [])).isSome=true)
structure SCore (q:QueryV) (σ:SeD):Prop where
 glen:σ.groups.length=2 ^ q.src.xs.length-1
 grp:∀ s,s<σ.groups.length->GOk q s (σ.groups.getD s [])
 task:∀ t∈σ.agenda,TaskOk q.src.xs.length σ.groups t
 best:TOk q σ.best
 small:σ.best.ns.length<=800
structure SOk (q:QueryV) (σ:SeD):Prop where
 core:SCore q σ
 stat:σ.status=1->0<σ.agenda.length
 alen:σ.agenda.length<=64*(σ.picks.length+1)
theorem addA_mem {rk:Nat->Int} {a:List TaskD} {t x:TaskD} (h:x∈addA rk a t):x∈a∨x=t:=by
 unfold addA at h;split at h
 ·exact .inl h
 ·rcases List.mem_append.1 h with h | h
  ·exact .inl (List.mem_of_mem_take h)
  ·rcases List.mem_cons.1 h with h | h
   ·exact .inr h
   ·exact .inl (List.mem_of_mem_drop h)
theorem addA_len (rk:Nat->Int) (a:List TaskD) (t:TaskD):(addA rk a t).length<=a.length+1:=by
 unfold addA;split
 ·omega
 ·simp only[List.length_append,List.length_take,List.length_cons,List.length_drop];omega
theorem reopen_mem {rk:Nat->Int} {s:Nat} {gs:List (List PlaceD)}:∀ (ks:List Nat) (a:List TaskD) (x:TaskD),x∈ks.foldl (reopenS rk s gs) a->x∈a∨∃ k∈ks,(headP (gs.getD k [])).isSome=true/\k &&& s=0/\(x=(s,k)∨x=(k,s))
 | [],_,_,h => .inl h
 | k::ks,a,x,h => by
  rcases reopen_mem ks (reopenS rk s gs a k) x h with h | ⟨k',hk,h1,h2,h3⟩
  ·unfold reopenS at h;split at h
   ·rename_i hc
    rw[Bool.and_eq_true,decide_eq_true_eq] at hc;rcases addA_mem h with h | h
    ·rcases addA_mem h with h | h
     ·exact .inl h
     ·exact .inr ⟨k,List.mem_cons_self,hc.1,hc.2,.inl h⟩
    ·exact .inr ⟨k,List.mem_cons_self,hc.1,hc.2,.inr h⟩
   ·exact .inl h
  ·exact .inr ⟨k',List.mem_cons_of_mem _ hk,h1,h2,h3⟩
theorem reopen_len (rk:Nat->Int) (s:Nat) (gs:List (List PlaceD)):∀ (ks:List Nat) (a:List TaskD),(ks.foldl (reopenS rk s gs) a).length<=a.length+2*ks.length
 | [],_ => by simp
 | k::ks,a => by
  refine Nat.le_trans (reopen_len rk s gs ks (reopenS rk s gs a k)) ?_;have:(reopenS rk s gs a k).length<=a.length+2:=by
   unfold reopenS;split
   ·have h1:=addA_len rk (addA rk a (s,k)) (k,s);have h2:=addA_len rk a (s,k);omega
   ·omega
  simp only[List.length_cons];omega
theorem offer1_head {g:List PlaceD} {t:TrD} (h:(headP g).isSome=true):(headP (offer1 g t)).isSome=true:=by
 match g,h with
 | [],h => cases h
 | (_,none)::_,h => cases h
 | (o,some y)::r,_ =>
  show (headP (putP _ t (o,some y)::_)).isSome=true
  unfold putP;split <;> rfl
theorem offerN_head:∀ {l:List TrD} {x:Bool × List PlaceD},(headP x.2).isSome=true->(headP (l.foldl offerS x).2).isSome=true
 | [],_,h => h
 | t::l,x,h => offerN_head (l:=l) (x:=offerS x t) (offer1_head h)
theorem resorts_head {ts:List TableD} {q:QueryV}:∀ {os:List (List Int)} {g:List PlaceD},(headP g).isSome=true->(headP (os.foldl (resortS ts q) g)).isSome=true
 | [],_,h => h
 | o::os,g,h => resorts_head (os:=os) (g:=resortS ts q g o) (offer1_head h)
theorem improveN_head {ts:List TableD} {q:QueryV} {g:List PlaceD} {l:List TrD} (h:(headP g).isSome=true):(headP (improveN ts q g l).2).isSome=true:=by
 unfold improveN;split
 ·exact resorts_head (offerN_head (x:=(false,g)) h)
 ·exact offerN_head (x:=(false,g)) h
theorem getD_setG (gs:List (List PlaceD)) (s k:Nat) (g:List PlaceD):(gs.set s g).getD k []=if s=k/\s<gs.length then g else gs.getD k []:=by
 rw[List.getD_eq_getElem?_getD,List.getElem?_set,List.getD_eq_getElem?_getD];by_cases h:s=k
 ·subst h;by_cases hl:s<gs.length
  ·rw[if_pos rfl,if_pos hl,if_pos ⟨rfl,hl⟩]; rfl
  ·rw[if_pos rfl,if_neg hl,if_neg (fun h=>hl h.2),List.getElem?_eq_none (by omega)]
 ·rw[if_neg h,if_neg (fun h'=>h h'.1)]
theorem TaskOk.set {n:Nat} {gs:List (List PlaceD)} {t:TaskD} (h:TaskOk n gs t) {s:Nat} {g:List PlaceD} (hg:(headP (gs.getD s [])).isSome=true->(headP g).isSome=true):TaskOk n (gs.set s g) t:=by
 rcases h with h | ⟨h0,h1,h2,h3,h4,h5⟩
 ·exact .inl h
 ·have key:∀ k,(headP (gs.getD k [])).isSome=true->(headP ((gs.set s g).getD k [])).isSome=true:=fun k hk=>by
   rw[getD_setG];split
   ·rename_i e
    rw[<- e.1] at hk;exact hg hk
   ·exact hk
  exact .inr ⟨h0,by rw[List.length_set]; exact h1,by rw[List.length_set]; exact h2,h3,key _ h4,key _ h5⟩
theorem GOk.zero {q:QueryV} {g:List PlaceD} (h:GOk q 0 g):(headP g).isSome=false:=by
 obtain⟨hh,r,rfl,hx⟩:=h.head
 cases hh with
 | none => rfl
 | some y => have:=hx y rfl; omega
theorem endingsT_ok {ts:List TableD} {q:QueryV} {t:TrD} (h:TOk q t):∀ x∈endingsT ts q t,TOk q x/\x.ns.length<=t.ns.length+3:=by
 have h1:=endedT_ok (ts:=ts) h;have h2:=endedT_ok (ts:=ts) (sortedT_ok (ts:=ts) (endOrderN q) h);have hl:=sortedT_len ts q t (endOrderN q);intro x hx;unfold endingsT at hx;split at hx
 ·rcases List.mem_cons.1 hx with rfl | hx
  ·exact⟨h1.1,by omega⟩
  ·rw[List.mem_singleton] at hx;rw[hx];exact⟨h2.1,by omega⟩
 ·rw[List.mem_singleton] at hx;rw[hx];exact⟨h1.1,by omega⟩
theorem cheapestT_in (b:TrD):∀ (l:List TrD),cheapestT b l=b∨cheapestT b l∈l:=by
 intro l;unfold cheapestT
 induction l generalizing b with
 | nil => exact .inl rfl
 | cons t l ih =>
  rw[List.foldl_cons];rcases ih (cheaperT b t) with h | h
  ·rw[h];unfold cheaperT;split
   ·exact .inr List.mem_cons_self
   ·exact .inl rfl
  ·exact .inr (List.mem_cons_of_mem _ h)
theorem bestS_ok {ts:List TableD} {q:QueryV} {b t:TrD} (hb:TOk q b/\b.ns.length<=800) (ht:TOk q t/\t.ns.length<=700):TOk q (bestS ts q b t)/\(bestS ts q b t).ns.length<=800:=by
 unfold bestS;rcases cheapestT_in b (endingsT ts q t) with h | h
 ·rw[h]; exact hb
 ·have:=endingsT_ok (ts:=ts) ht.1 _ h;exact⟨this.1,by omega⟩
theorem bests_ok {ts:List TableD} {q:QueryV}:∀ {l:List TrD} {b:TrD},(TOk q b/\b.ns.length<=800)->(∀ t∈l,TOk q t/\t.ns.length<=700)->TOk q (l.foldl (bestS ts q) b)/\(l.foldl (bestS ts q) b).ns.length<=800
 | [],_,h,_ => h
 | t::l,b,h,hl => bests_ok (l:=l) (b:=bestS ts q b t) (bestS_ok h (hl t List.mem_cons_self)) (fun x hx => hl x (List.mem_cons_of_mem _ hx))
theorem keepN_ok {rk:Nat->Int} {ts:List TableD} {q:QueryV} {s:Nat} {l:List TrD} {σ:SeD} (h:SCore q σ) (h5:q.src.xs.length<=5) (hs:s<2 ^ q.src.xs.length) (h0:0<s) (hl:∀ t∈l,TIn q s t) :
  SCore q (keepN rk ts q s l σ)/\(keepN rk ts q s l σ).agenda.length<=σ.agenda.length+62/\(keepN rk ts q s l σ).picks=σ.picks/\(keepN rk ts q s l σ).status=σ.status/\(keepN rk ts q s l σ).cut=σ.cut:=by
 have h32:2 ^ q.src.xs.length<=32:=Nat.pow_le_pow_right (n:=2) (by omega) h5;unfold keepN;by_cases hc:s=2 ^ q.src.xs.length-1
 ·rw[if_pos hc];have hb:=bests_ok (ts:=ts) (l:=l) (b:=σ.best) ⟨h.best,h.small⟩ (fun t ht=>⟨(hl t ht).ok,by have:=(hl t ht).len; omega⟩);exact⟨⟨h.glen,h.grp,h.task,hb.1,hb.2⟩,Nat.le_add_right _ _,rfl,rfl,rfl⟩
 rw[if_neg hc];have hsl:s<σ.groups.length:=by rw[h.glen]; omega
 have hg:=improveN_ok (ts:=ts) (h.grp s hsl) hl;have hgl:(σ.groups.set s (improveN ts q (σ.groups.getD s []) l).2).length=σ.groups.length:=List.length_set ..;refine⟨⟨?_,fun k hk=>?_,fun t ht=>?_,h.best,h.small⟩,?_,rfl,rfl,rfl⟩
 ·show (σ.groups.set s _).length=_
  rw[List.length_set];exact h.glen
 ·show GOk q k ((σ.groups.set s _).getD k [])
  rw[getD_setG];split
  ·rename_i e
   rw[<- e.1];exact hg.1
  ·refine h.grp k ?_;have hk:k<(σ.groups.set s (improveN ts q (σ.groups.getD s []) l).2).length:=hk
   rwa [List.length_set] at hk
 ·have ht:t∈(if (improveN ts q (σ.groups.getD s []) l).1=true then reopenN rk s (σ.groups.set s (improveN ts q (σ.groups.getD s []) l).2) σ.agenda else σ.agenda):=ht
  show TaskOk _ (σ.groups.set s (improveN ts q (σ.groups.getD s []) l).2) t
  have old:∀ t∈σ.agenda,TaskOk q.src.xs.length (σ.groups.set s (improveN ts q (σ.groups.getD s []) l).2) t:=fun t ht=>(h.task t ht).set (fun h=>improveN_head h)
  split at ht
  ·rename_i hi
   rcases reopen_mem _ _ _ ht with ht | ⟨k,hk,h1,h2,h3⟩
   ·exact old t ht
   ·have hk:k<σ.groups.length:=by rw[<- hgl]; exact List.mem_range.1 hk
    have hk0:k≠0:=fun e=>by
     rw[e,getD_setG,if_neg (fun h=>by omega)] at h1;rw[(h.grp 0 (by omega)).zero] at h1
     cases h1
    have hsome:(headP ((σ.groups.set s (improveN ts q (σ.groups.getD s []) l).2).getD s [])).isSome=true:=by
     rw[getD_setG,if_pos ⟨rfl,hsl⟩];exact hg.2.1 hi
    rcases h3 with rfl | rfl
    ·exact .inr ⟨hk0,by rw[hgl]; exact hsl,by rw[hgl]; exact hk,by rw[Nat.and_comm]; exact h2,hsome,h1⟩
    ·exact .inr ⟨by show s≠0; omega,by rw[hgl]; exact hk,by rw[hgl]; exact hsl,h2,h1,hsome⟩
  ·exact old t ht
 ·show (if _ then reopenN rk s _ σ.agenda else σ.agenda).length<=_
  split
  ·refine Nat.le_trans (reopen_len rk s _ _ _) ?_;rw[List.length_range,hgl,h.glen];omega
  ·omega
theorem risI_bit (i:Nat) (hi:i<5):(risI (2 ^ i)).getD 0 0=(i:Int):=by
 have:i=0∨i=1∨i=2∨i=3∨i=4:=by omega
 rcases this with rfl | rfl | rfl | rfl | rfl <;> decide
theorem doN_ok {rk:Nat->Int} {ts:List TableD} {q:QueryV} {conc:List Nat} (hcn:conc.length=q.wh.length) {t:TaskD} {σ:SeD} (h:SCore q σ) (h5:q.src.xs.length<=5) (ht:TaskOk q.src.xs.length σ.groups t) :
  SCore q (doN rk ts q conc t σ)/\(doN rk ts q conc t σ).agenda.length<=σ.agenda.length+62/\(doN rk ts q conc t σ).picks=σ.picks/\(doN rk ts q conc t σ).status=σ.status/\(doN rk ts q conc t σ).cut=σ.cut:=by
 unfold doN;rcases ht with⟨h0,i,hi,e⟩ | ⟨h0,h1,h2,h3,h4,h6⟩
 ·rw[if_pos h0,e,risI_bit i (by omega)];have hp:0<2 ^ i:=Nat.pow_pos (by omega);have hs:=scannedT_ok ts q hcn (s:=(i:Int)) (by omega) (by omega);refine keepN_ok h h5 (Nat.pow_lt_pow_right (by omega) hi) hp (fun x hx=>?_);rw[List.mem_singleton] at hx;rw[hx];exact⟨hs.1,hs.2.1,by have:=hs.2.2; omega⟩
 ·rw[if_neg h0];rw[h.glen] at h1 h2;refine keepN_ok h h5 (or_lt (by omega) (by omega)) ?_ (fun x hx=>?_)
  ·rw[or_apart h3]; omega
  ·exact joinsT_in hcn h3 (h.grp _ (by rw[h.glen]; exact h1)) (h.grp _ (by rw[h.glen]; exact h2)) h6 x hx
theorem placeI_lt {n:Nat} (hn:0<n) (pick:Int):0<=placeI n pick/\placeI n pick<n:=by
 unfold placeI;have h1:=Int.lt_tmod_of_pos pick (show (0:Int)<n by omega);exact⟨Int.tmod_nonneg _ (by omega),Int.tmod_lt_of_pos _ (by omega)⟩
theorem SCore.erase {q:QueryV} {σ:SeD} (h:SCore q σ) (k:Nat) (ps:List Int):SCore q { σ with picks:=ps,agenda:=σ.agenda.eraseIdx k }:=
 ⟨h.glen,h.grp,fun t ht=>h.task t (List.mem_of_mem_eraseIdx ht),h.best,h.small⟩
theorem stepN_ok {rk:Nat->Int} {ts:List TableD} {q:QueryV} {conc:List Nat} (hcn:conc.length=q.wh.length) {σ:SeD} (h:SOk q σ) (h5:q.src.xs.length<=5) (h1:σ.status=1) (pick:Int) :
  SOk q (stepN rk ts q conc pick σ)/\(stepN rk ts q conc pick σ).picks.length=σ.picks.length+1:=by
 have hn:=h.stat h1;have hp:=placeI_lt hn pick;have hm:σ.agenda.getD (placeI σ.agenda.length pick).toNat (0,0)∈σ.agenda:=by
  rw[List.getD_eq_getElem?_getD,List.getElem?_eq_getElem (by omega)];exact List.getElem_mem _
 have hd:=doN_ok (rk:=rk) (ts:=ts) hcn (t:=σ.agenda.getD (placeI σ.agenda.length pick).toNat (0,0)) (h.core.erase (placeI σ.agenda.length pick).toNat (σ.picks++[placeI σ.agenda.length pick])) h5 (h.core.task _ hm);have hel:(σ.agenda.eraseIdx (placeI σ.agenda.length pick).toNat).length=σ.agenda.length-1:=List.length_eraseIdx_of_lt (by omega);unfold stepN;simp only;generalize doN rk ts q conc (σ.agenda.getD (placeI σ.agenda.length pick).toNat (0,0)) { σ with picks:=σ.picks++[placeI σ.agenda.length pick],agenda:=σ.agenda.eraseIdx (placeI σ.agenda.length pick).toNat } = τ at *;obtain⟨c1,c2,c3,c4,c5⟩:=hd;simp only at c2 c3 c4 c5;rw[hel] at c2;have hpl:τ.picks.length=σ.picks.length+1:=by rw[c3]; simp
 have ha:=h.alen;unfold settleN;split
 ·rename_i hz
  exact⟨⟨c1,fun _=>hz,by rw[hpl]; omega⟩,hpl⟩
 ·rename_i hz
  refine⟨⟨⟨c1.glen,c1.grp,c1.task,c1.best,c1.small⟩,fun e=>?_,?_⟩,hpl⟩
  ·exfalso;have e:(if τ.cut=true then (3:Int) else 2)=1:=e;split at e <;> omega
  ·show τ.agenda.length<=64*(τ.picks.length+1)
   omega
end Go.Scout
