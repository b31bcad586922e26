import Derived.Test.YtbcgekghfgcakaaGreatDoorF10
set_option linter.all false
set_option maxRecDepth 100000
set_option maxHeartbeats 16000000
namespace Go.Proofs.Zz
open Go.RowKit Go.Shelf
theorem Rc (p:bK):p.cells=#[.int .i64 p.kind,.int .u64 (p.sources:Int),.int .u64 (p.clauses:Int),p.order.val,.int .u64 (p.size:Int),.int .u64 (p.cost:Int)]:=rfl
theorem UQ (k:Int) (l r s:Nat):sI k l r s<=bR:=by
 unfold sI
 repeat' split
 ·exact uT _
 ·exact uT _
 ·exact wW _ _
theorem Lx (p:bK) (ao:Option Addr) (cap:Nat) (ps:List bK) (w:World) (hp:PartsAt w ao ps) (hz:p.size<=bR) (h1:p.kind≠1->0<ps.length) (h2:3<=p.kind->p.kind<=5->1<ps.length) :
  Calls Tryz.prog 213 #[.agg p.cells,.slice ao ps.length cap] w fun e w'=>e=.returned (.int .u64 (jG p.kind p.size (ps.getD 0 dM).cost (ps.getD 0 dM).size (ps.getD 1 dM).cost (ps.getD 1 dM).size:Nat))/\Below w.heap.size w w':=by
 obtain⟨w1,hw1,hk1,hg1⟩:=bu w p.cells 117;have hc0:=hk1;have wI:=hg1;have mJ:=wI.at 0;have sj:=wI.at 4;have HC:=Zh hc0;generalize Re:p.cells=PC at *;clear Re;by_cases k1:p.kind=1
 ·have HV:Hid (jG p.kind p.size (ps.getD 0 dM).cost (ps.getD 0 dM).size (ps.getD 1 dM).cost (ps.getD 1 dM).size=iE [p.size,1]):=by show _=_; unfold jG; rw[Qr k1]
  generalize jG p.kind p.size (ps.getD 0 dM).cost (ps.getD 0 dM).size (ps.getD 1 dM).cost (ps.getD 1 dM).size=R at *;have hS:=adu w1 p.size 1 hz (by unfold bR; omega);rw[<- HV.out] at hS;have kb:(p.kind==1)=true:=by simp[k1]
  clear HV k1 h1 h2 hz hg1 wI hk1 hc0 hp;generalize p.kind=k at *;generalize p.size=s at *;go_enter Tryz.func213,Tryz.ntmps213;go_wp2_with fail;refine hS.mono ?_;clear hS;rintro e w2 ⟨rfl,hb2⟩;have HB:=Zh (aG HC.out hb2);clear hb2;go_wp2;go_ret;exact⟨rfl,HB.out⟩
 have hn0:=h1 k1;have hpl:=hp.1;obtain⟨⟨pb,po,rfl,c0,c1,c2,c3,c4,c5⟩,hl⟩:=hp.2 0 hn0;rw[QD,ZU] at c0 c1 c2 c3 c4 c5;have HP1:Hid (1<ps.length->w.cell? (aD pb (po+6))=some (.int .i64 (ps.getD 1 dM).kind)/\w.cell? (aD pb (po+6+1))=some (.int .u64 ((ps.getD 1 dM).sources:Int))/\
  w.cell? (aD pb (po+6+2))=some (.int .u64 ((ps.getD 1 dM).clauses:Int))/\w.cell? (aD pb (po+6+3))=some (ps.getD 1 dM).order.val/\
  w.cell? (aD pb (po+6+4))=some (.int .u64 ((ps.getD 1 dM).size:Int))/\w.cell? (aD pb (po+6+5))=some (.int .u64 ((ps.getD 1 dM).cost:Int))/\(ps.getD 1 dM).size<=bR/\(ps.getD 1 dM).cost<=bR):=fun h=>by
  obtain⟨⟨b',o',e,d0,d1,d2,d3,d4,d5⟩,hr⟩:=hp.2 1 h
  cases e
  rw[Nat.one_mul] at d0 d1 d2 d3 d4 d5;exact⟨d0,d1,d2,d3,d4,d5,hr.size,hr.cost⟩
 have hlz:=hl.size;have hlc:=hl.cost;obtain⟨R,hR⟩:∃ R,R=jG p.kind p.size (ps.getD 0 dM).cost (ps.getD 0 dM).size (ps.getD 1 dM).cost (ps.getD 1 dM).size:=⟨_,rfl⟩
 rw[<- hR];unfold jG at hR;rw[Qs k1] at hR;have HV:=Zh hR;clear hR;have h2':=h2;clear hp hl h1 h2 hg1 wI;generalize p.kind=k at *;generalize p.size=s at *;generalize ps.getD 0 dM=l at *;generalize ps.getD 1 dM=r at *;obtain⟨lk,ls,lcl,⟨la,lcp,lx⟩,lz,lc⟩:=l;obtain⟨rk,rs,rcl,⟨ra,rcp,rx⟩,rz,rc⟩:=r;unfold ah.val at *;simp only at *;obtain⟨w2,hw2,hk2,hg2⟩:=bu w1 #[.int .i64 lk,.int .u64 (ls:Int),.int .u64 (lcl:Int),.slice la lx.length lcp,.int .u64 (lz:Int),.int .u64 (lc:Int)] 117;have d0:=cB hc0 c0;have d1:=cB hc0 c1;have d2:=cB hc0 c2;have d3:=cB hc0 c3;have d4:=cB hc0 c4;have d5:=cB hc0 c5;have m0:=cB hk2 mJ;have m4:=cB hk2 sj;have l4:=hg2.at 4;have l5:=hg2.at 5;have tY:=Zh (aG HC.out hk2);have kb1:(k==1)=false:=by simp[k1]
 clear c0 c1 c2 c3 c4 c5 hg2 hk1 hc0 hk2 k1;go_enter Tryz.func213,Tryz.ntmps213;go_wp2;refine kN (by kernel_rfl) (by kernel_rfl) ?_;refine qS (.pointer (some (aD w1.heap.size 4))) ?_;refine qC (.int .u64 (lz:Int)) l4 ?_;refine qS (.pointer (some (aD w.heap.size 4))) ?_;refine qC (.int .u64 (s:Int)) m4 ?_;refine qS (.int .u64 (lz:Int)) ?_;refine qS (.int .u64 (s:Int)) ?_;refine wpQuiet_nil ?_;intro w3 hb3;have n0:=cB hb3 m0;have n5:=cB hb3 l5;have Gb:=Zh (aG tY.out hb3);have HPr:Hid (1<ps.length->_):=fun h=>HP1.out h
 clear hw1 hw2 m0 m4 l4 l5 hb3 d0 d1 d2 d3 d4 d5 mJ sj HP1 HC tY;by_cases LA:k=3∨k=4∨k=5
 ·rw[Qr LA] at HV;obtain⟨q0,q1,q2,q3,q4,q5,hrz,hrc⟩:=HPr.out (h2' (by omega) (by omega));have e0:=cB Gb.out q0;have e1:=cB Gb.out q1;have e2:=cB Gb.out q2;have e3:=cB Gb.out q3;have e4:=cB Gb.out q4;have e5:=cB Gb.out q5;have aq8:=h2' (by omega) (by omega);obtain⟨w4,hw4,hk4,hg4⟩:=bu w3 #[.int .i64 rk,.int .u64 (rs:Int),.int .u64 (rcl:Int),.slice ra rx.length rcp,.int .u64 (rz:Int),.int .u64 (rc:Int)] 117;have r4:=hg4.at 4;have r5:=hg4.at 5;have t0:=cB hk4 n0;have t5:=cB hk4 n5;have HC4:=Zh (aG Gb.out hk4);have HJW:Hid (∀ x,_):=fun x=>Ea k lz rz s x hlz hrz hz
  have GM:Hid (sI k lz rz s<=bR):=UQ _ _ _ _;have Gc:Hid (∀ (x:World) (m:Nat),m<=bR->_):=fun x m hm=>adv x lc rc m hlc hrc hm
  generalize sI k lz rz s=wk at *;clear q0 q1 q2 q3 q4 q5 hk4 hg4 h2' HPr hlz hlc hrz hrc hz;have HK:=Zh LA;clear LA;rcases HK.out with h | h | h
  ·subst h;clear HK;go_wp2;refine wH w4 fun hS=>?_
   refine wt 0 (.pointer (some (aD w1.heap.size 5))) hS ?_;refine iB 1 (.int .u64 (lc:Int)) hS t5 ?_;refine wt 2 (.pointer (some (aD w3.heap.size 5))) hS ?_;refine iB 3 (.int .u64 (rc:Int)) hS r5 ?_;refine wt 4 (.pointer (some (aD w.heap.size 0))) hS ?_;refine iB 5 (.int .i64 3) hS t0 ?_;refine wt 6 (.int .u64 (lz:Int)) hS ?_;refine wt 7 (.pointer (some (aD w3.heap.size 4))) hS ?_;refine iB 8 (.int .u64 (rz:Int)) hS r4 ?_;refine wt 9 (.int .u64 (s:Int)) hS ?_;refine wR 10 fun K hK=>?_
   go_simp;refine Z7 (HJW.out _) ?_;rintro e w5 ⟨rfl,hb5⟩;refine oT hK hS hb5 fun hS=>?_
   clear hK K;refine wR 11 fun K hK=>?_
   go_simp;refine oA hK hS fun hS=>?_
   clear hK K;refine wR 12 fun K hK=>?_
   go_simp;refine Z7 (Gc.out w5 wk GM.out) ?_;rintro e w6 ⟨rfl,hb6⟩;refine hK.out _ _ ((Below.trans (((Qp _ _).drew).trans (hb5.mono (by simp))) (hb6.mono (by have:=hb5.size; simp at this; omega)))) (fun hS=>?_);clear hK K;refine wR 13 fun K hK=>?_
   go_simp;refine hK.out _ _ hS fun hS=>?_
   clear hK K;refine wD ?_
   try simp only[pU]
   have HB:=Zh (aG HC4.out hS);rw[<- HV.out];clear hS hb5 hb6 HV;go_wp2;go_ret;exact⟨rfl,HB.out⟩
  ·subst h;clear HK;go_wp2;refine wH w4 fun hS=>?_
   refine wt 0 (.pointer (some (aD w1.heap.size 5))) hS ?_;refine iB 1 (.int .u64 (lc:Int)) hS t5 ?_;refine wt 2 (.pointer (some (aD w3.heap.size 5))) hS ?_;refine iB 3 (.int .u64 (rc:Int)) hS r5 ?_;refine wt 4 (.pointer (some (aD w.heap.size 0))) hS ?_;refine iB 5 (.int .i64 4) hS t0 ?_;refine wt 6 (.int .u64 (lz:Int)) hS ?_;refine wt 7 (.pointer (some (aD w3.heap.size 4))) hS ?_;refine iB 8 (.int .u64 (rz:Int)) hS r4 ?_;refine wt 9 (.int .u64 (s:Int)) hS ?_;refine wR 10 fun K hK=>?_
   go_simp;refine Z7 (HJW.out _) ?_;rintro e w5 ⟨rfl,hb5⟩;refine oT hK hS hb5 fun hS=>?_
   clear hK K;refine wR 11 fun K hK=>?_
   go_simp;refine oA hK hS fun hS=>?_
   clear hK K;refine wR 12 fun K hK=>?_
   go_simp;refine Z7 (Gc.out w5 wk GM.out) ?_;rintro e w6 ⟨rfl,hb6⟩;refine hK.out _ _ ((Below.trans (((Qp _ _).drew).trans (hb5.mono (by simp))) (hb6.mono (by have:=hb5.size; simp at this; omega)))) (fun hS=>?_);clear hK K;refine wR 13 fun K hK=>?_
   go_simp;refine hK.out _ _ hS fun hS=>?_
   clear hK K;refine wD ?_
   try simp only[pU]
   have HB:=Zh (aG HC4.out hS);rw[<- HV.out];clear hS hb5 hb6 HV;go_wp2;go_ret;exact⟨rfl,HB.out⟩
  ·subst h;clear HK;go_wp2;refine wH w4 fun hS=>?_
   refine wt 0 (.pointer (some (aD w1.heap.size 5))) hS ?_;refine iB 1 (.int .u64 (lc:Int)) hS t5 ?_;refine wt 2 (.pointer (some (aD w3.heap.size 5))) hS ?_;refine iB 3 (.int .u64 (rc:Int)) hS r5 ?_;refine wt 4 (.pointer (some (aD w.heap.size 0))) hS ?_;refine iB 5 (.int .i64 5) hS t0 ?_;refine wt 6 (.int .u64 (lz:Int)) hS ?_;refine wt 7 (.pointer (some (aD w3.heap.size 4))) hS ?_;refine iB 8 (.int .u64 (rz:Int)) hS r4 ?_;refine wt 9 (.int .u64 (s:Int)) hS ?_;refine wR 10 fun K hK=>?_
   go_simp;refine Z7 (HJW.out _) ?_;rintro e w5 ⟨rfl,hb5⟩;refine oT hK hS hb5 fun hS=>?_
   clear hK K;refine wR 11 fun K hK=>?_
   go_simp;refine oA hK hS fun hS=>?_
   clear hK K;refine wR 12 fun K hK=>?_
   go_simp;refine Z7 (Gc.out w5 wk GM.out) ?_;rintro e w6 ⟨rfl,hb6⟩;refine hK.out _ _ ((Below.trans (((Qp _ _).drew).trans (hb5.mono (by simp))) (hb6.mono (by have:=hb5.size; simp at this; omega)))) (fun hS=>?_);clear hK K;refine wR 13 fun K hK=>?_
   go_simp;refine hK.out _ _ hS fun hS=>?_
   clear hK K;refine wD ?_
   try simp only[pU]
   have HB:=Zh (aG HC4.out hS);rw[<- HV.out];clear hS hb5 hb6 HV;go_wp2;go_ret;exact⟨rfl,HB.out⟩
 rw[Qs LA] at HV;have kb3:(k==3)=false:=by simp; omega
 have kb4:(k==4)=false:=by simp; omega
 have kb5:(k==5)=false:=by simp; omega
 by_cases k6:k=6∨k=10
 ·rw[Qr k6] at HV;have HSW:Hid (∀ x,_):=fun x=>Eb lz x hlz
  have GM:Hid (eU lz (jW lz+1)<=bR):=wW _ _;have HS2:Hid (∀ (x:World) (m:Nat),m<=bR->_):=fun x m hm=>adu x lc m hlc hm
  generalize eU lz (jW lz+1)=wk at *;clear h2' HPr hlz hlc hz LA;have HK:=Zh k6;clear k6;rcases HK.out with h | h
  ·subst h;clear HK;go_wp2;refine wH w3 fun hS=>?_
   refine wt 0 (.pointer (some (aD w1.heap.size 5))) hS ?_;refine iB 1 (.int .u64 (lc:Int)) hS n5 ?_;refine wt 2 (.int .u64 (lz:Int)) hS ?_;refine wR 3 fun K hK=>?_
   go_simp;refine Z7 (HSW.out _) ?_;rintro e w5 ⟨rfl,rfl⟩;refine hK.out _ _ hS fun hS=>?_
   clear hK K;refine wR 4 fun K hK=>?_
   go_simp;refine oA hK hS fun hS=>?_
   clear hK K;refine wR 5 fun K hK=>?_
   go_simp;refine Z7 (HS2.out w3.drew wk GM.out) ?_;rintro e w6 ⟨rfl,hb6⟩;refine hK.out _ _ ((((Qp _ _).drew).trans (hb6.mono (by simp)))) (fun hS=>?_);clear hK K;refine wR 6 fun K hK=>?_
   go_simp;refine hK.out _ _ hS fun hS=>?_
   clear hK K;refine wD ?_
   try simp only[pU]
   have HB:=Zh (aG Gb.out hS);rw[<- HV.out];clear hS hb6 HV;go_wp2;go_ret;exact⟨rfl,HB.out⟩
  ·subst h;clear HK;go_wp2;refine wH w3 fun hS=>?_
   refine wt 0 (.pointer (some (aD w1.heap.size 5))) hS ?_;refine iB 1 (.int .u64 (lc:Int)) hS n5 ?_;refine wt 2 (.int .u64 (lz:Int)) hS ?_;refine wR 3 fun K hK=>?_
   go_simp;refine Z7 (HSW.out _) ?_;rintro e w5 ⟨rfl,rfl⟩;refine hK.out _ _ hS fun hS=>?_
   clear hK K;refine wR 4 fun K hK=>?_
   go_simp;refine oA hK hS fun hS=>?_
   clear hK K;refine wR 5 fun K hK=>?_
   go_simp;refine Z7 (HS2.out w3.drew wk GM.out) ?_;rintro e w6 ⟨rfl,hb6⟩;refine hK.out _ _ ((((Qp _ _).drew).trans (hb6.mono (by simp)))) (fun hS=>?_);clear hK K;refine wR 6 fun K hK=>?_
   go_simp;refine hK.out _ _ hS fun hS=>?_
   clear hK K;refine wD ?_
   try simp only[pU]
   have HB:=Zh (aG Gb.out hS);rw[<- HV.out];clear hS hb6 HV;go_wp2;go_ret;exact⟨rfl,HB.out⟩
 rw[Qs k6] at HV;have kb6:(k==6)=false:=by simp; omega
 have aui:(k==10)=false:=by simp; omega
 by_cases k7:k=7
 ·rw[Qr k7] at HV;subst k7;have hS3:=adv w3 lc lz lz hlc hlz hlz;rw[<- HV.out] at hS3;clear h2' HPr hlz hlc hz LA k6 HV;go_wp2_with fail;refine hS3.mono ?_;clear hS3;rintro e w4 ⟨rfl,hb4⟩;have HB:=Zh (aG Gb.out hb4);clear hb4;go_wp2;go_ret;exact⟨rfl,HB.out⟩
 rw[Qs k7] at HV;have kb7:(k==7)=false:=by simp; omega
 have hS2:=adu w3 lc lz hlc hlz;rw[<- HV.out] at hS2;clear h2' HPr hlz hlc hz LA k6 k7 HV;go_wp2_with fail;refine hS2.mono ?_;clear hS2;rintro e w4 ⟨rfl,hb4⟩;have HB:=Zh (aG Gb.out hb4);clear hb4;go_wp2;go_ret;exact⟨rfl,HB.out⟩
theorem Dg {s n:Nat} (h:s<2 ^ n) {i:Nat} (hi:i∈bz s):i<n:=by
 unfold bz at hi;have hb:=(List.mem_filter.1 hi).2;rcases Nat.lt_or_ge i n with h' | h'
 ·exact h'
 ·have:=Nat.testBit_lt_two_pow (Q8 h (QZ (by omega) h'));rw[this] at hb
  cases hb
theorem qI (g:Nat->Nat):∀ (l:List Nat) (m:Nat),l.foldl (fun x c=>x / g c) m<=m
 | [],m => Qq _
 | a::l,m => by
  rw[QO];exact Q4 (qI g l _) (Nat.div_le_self _ _)
theorem UR (ts:List af) (q:ae) (s c:Nat):mK ts q s c<=bR:=by
 unfold mK;have h1:=lZ ((bz s).map fun (k:Nat)=>pJ ts q.src.xs (k:Int)) 1 (by unfold bR; omega);split
 ·exact QQ _
 ·have:=qI (fun c=>iF ts q.src.xs (q.wh.getD c lz).cs) (bz c) (((bz s).map fun (k:Nat)=>pJ ts q.src.xs (k:Int)).foldl eU 1);rw[Nat.max_def];split
  ·unfold bR; omega
  ·exact Q4 this h1
theorem UT (k:Int) (s lc ls rc rs:Nat):jG k s lc ls rc rs<=bR:=by
 unfold jG
 repeat' split
 all_goals exact uT _
section
def qJ (s k:Nat):List Nat:=(List.range k).filter fun i=>s.testBit i
theorem Hl (s k:Nat):qJ s (k+1)=qJ s k++if s.testBit k=true then [k] else []:=by
 unfold qJ;rw[QR,List.filter_append]
 cases h:s.testBit k <;> simp[h]
theorem LB (s:Nat) {k:Nat} (hk:k<=64):qJ s k <+: bz s:=by
 have e:List.range 64=List.range k++(List.range (64-k)).map (k + ·):=by
  rw[<- List.range_add];congr 1;omega
 unfold qJ bz;rw[e,List.filter_append];exact List.prefix_append _ _
theorem LD (s:Nat) {k:Nat} (hk:k<=64) (h:s / 2 ^ k=0):qJ s k=bz s:=by
 symm;refine D6 hk _ (fun i hi=>?_);have h2:s<2 ^ k:=by
  rcases Nat.lt_or_ge s (2 ^ k) with h' | h'
  ·exact h'
  ·have:=Nat.div_pos h' (Nat.pow_pos (by omega));omega
 exact Nat.testBit_lt_two_pow (Q8 h2 (QZ (by omega) hi))
theorem LF {s k:Nat} (hs:s<18446744073709551616) (h:s / 2 ^ k≠0):k<64:=by
 rcases Nat.lt_or_ge k 64 with h' | h'
 ·exact h'
 ·exfalso;apply h;apply Nat.div_eq_of_lt;exact Q8 hs (QZ (n:=2) (by omega) h')
attribute [local go_sem] Oper.semAt_some
theorem oL (s:Nat) (hs:s<18446744073709551616) (w0:World):ahI jA Tryz.prog 69 (.int .u64 (s:Int)) (bz s) w0:=by
 intro l J W o hW ho hJ hY h0;have HY:=Zh hY;have HST:Hid _:=@Hl s;have HSP:Hid _:=@LB s;have HSA:Hid _:=@LD s;have HH:Hid (∀ n x,n<64->_):=fun n x hn=>La s n hs hn x
 have Er:Hid (∀ k,s / 2 ^ k≠0->k<64):=fun k h=>LF hs h
 have Ob:Hid (qJ s 0=[]):=rfl;generalize qJ s=RT at *;refine (Ze (n:=0)).1 (callsIn_of_wp Tryz.func69 rfl trivial ?_ rfl);simp only[Tryz.ntmps69,Zj,Q5,Zk,Nat.reduceAdd,Nat.reduceSub,Zl,Zm,Zn,Zo,Zp,Zq]
 gi_wp2
 gi_loopw [4] (fun i wr=>∃ k:Nat,k<=64/\i=.int .i64 k/\∃ o1,Hid (J (RT k) o1 wr)/\Hid (Kept (fun b=>¬ o b) W wr)/\Hid (∀ b,o1 b->o b∨(W.heap.size<=b/\b<wr.heap.size)))
  (fun i _=>64-(intOf i).toNat)
 case atStart=>exact⟨0,QQ _,rfl,o,by rw[Ob.out]; exact h0,Q7 _ _,fun b h=>.inl h⟩
 case round=>
  obtain⟨k,hk,rfl,o1,hJs,rO,ho1⟩:=hrel;by_cases hz:s / 2 ^ k=0
  ·have HE:=Zh (HSA.out hk hz);have hzb:((s:Int) / 2 ^ k != 0)=false:=by
    have e:((s:Int) / 2 ^ k)=((s / 2 ^ k:Nat):Int):=by simp
    rw[e,hz]; rfl
   gi_wp2
   go_end0;exact⟨⟨_,rfl⟩,bz s,o1,by simp[jA],by rw[<- HE.out]; exact hJs.out,rO.out,ho1.out⟩
  ·have aai:=Er.out k hz;have hzb:((s:Int) / 2 ^ k != 0)=true:=by
    have e:((s:Int) / 2 ^ k)=((s / 2 ^ k:Nat):Int):=by simp
    rw[e,bne_iff_ne]; omega
   have HT:=Zh (HST.out k);have HP:Hid (RT (k+1) <+: bz s):=HSP.out (by omega);have hH:=HH.out k wr aai
   cases hb:s.testBit k with
   | false =>
    rw[hb] at hH HT
    gi_wp2
    refine⟨trivial,rfl,Ze.2 (hH.mono ?_)⟩;rintro e W3 ⟨rfl,rfl⟩
    gi_wp2
    refine⟨(fun _ h=>by cases h),?_⟩
    gi_wp2
    go_roundw
    case rel=>exact⟨k+1,by omega,by go_num,o1,by have h:RT (k+1)=RT k++[]:=HT.out; rw[h,Xl]; exact hJs.out,rO.out,ho1.out⟩
    case measure=>simp[intOf]; omega
   | true =>
    rw[hb] at hH HT;have HT':Hid (RT (k+1)=RT k++[k]):=HT.out;obtain⟨fn,tmps,assign,body,hy,hR⟩:=HY.out (RT k) k o1 wr hJs.out (by rw[<- HT'.out]; simpa [jA] using HP.out) trivial (fun b h=>by cases h) rO.out.size;have hy':(Instr.yield l #[.int .i64 (k:Int)]).run Tryz.prog wr=.ok (.round l fn tmps assign body) wr:=hy
    gi_wp2
    refine⟨trivial,rfl,Ze.2 (hH.mono ?_)⟩;rintro e W3 ⟨rfl,rfl⟩
    gi_wp2
    refine⟨rfl,hR.mono ?_⟩;rintro e W3 ⟨rfl,o2,hJ3,hk3,hg3⟩;have Hm:=Zh hJ3;have pK:=Zh hk3;have wK:=Zh hg3
    gi_wp2
    go_roundw
    case rel=>
     refine⟨k+1,by omega,by go_num,o2,by rw[HT'.out]; exact Hm.out,rO.out.trans' pK.out ?_,?_⟩
     ·intro b hb h h';rcases ho1.out b h' with h' | h'
      ·exact h h'
      ·omega
     ·intro b hb;have:=pK.out.size;have:=rO.out.size;rcases wK.out b hb with h | h | h
      ·rcases ho1.out b h with h | h
       ·exact .inl h
       ·exact .inr ⟨h.1,by omega⟩
      ·exact .inr ⟨by omega,h.2⟩
      ·cases h.1
    case measure=>simp[intOf]; omega
end
theorem sS (n:Nat) (hn:n<=64) (w:World) :
  Calls Tryz.prog 72 #[.int .i64 (n:Int)] w fun e w'=>e=.returned (.int .u64 ((2 ^ n-1:Nat):Int))/\w' = w:=by
 rcases Nat.lt_or_ge n 64 with h | h
 ·exact GH n h w
 ·obtain rfl:n=64:=by omega
  go_enter Tryz.func72,Tryz.ntmps72;go_wp2;go_ret;exact⟨rfl,rfl⟩
theorem LG {P:Program} {ops:Array Oper} {Q:Exit->Act->World->Prop} {l:Nat} (hd:∀ o∈ops,∀ c,o.op ≠ .defer c) {i:Nat} {K K':Act->World->Prop} (hK:∀ a w,K a w->K' a w) {a:Act} {w:World} (h:wpOpIn Fence.wide 0 P ops Q i K a w):wpOpIn (Fence.wide.inRound l) 0 P ops Q i K' a w:=by
 unfold wpOpIn at *
 cases ho:ops[i]? with
 | none => rw[ho] at h; exact hK _ _ h
 | some o =>
  rw[ho] at h;simp only at *;have hm:=Array.mem_of_getElem? ho;by_cases hw:Region.wanted o (yielded ops a.tmps)=true
  ·rw[Qr hw] at *;unfold Oper.wpIn at *;refine⟨h.1,?_⟩;have h2:=h.2;rw[Oper.semAt_plain Fence.wide _ _ (hd o hm)] at h2;rw[Oper.semAt_plain (Fence.wide.inRound l) _ _ (hd o hm)];generalize Sem.run P (execOp a.eval o) w=r at *;unfold Oper.uponIn at *;split at h2
   ·exact hK _ _ h2
   ·exact hK _ _ h2
   ·exact hK _ _ h2
   ·exact⟨h2.1,h2.2.mono (fun e w' he=>by
     cases e with
     | returned v => exact hK _ _ he
     | panicked c => exact he
     | outgrown => exact he)⟩
   ·exact⟨h2.1,h2.2.mono (fun v w' he=>hK _ _ he)⟩
   ·exact⟨h2.1,h2.2.mono (fun e w' he=>by
     cases e with
     | returned v => exact hK _ _ he
     | panicked c => exact he
     | outgrown => exact he)⟩
   ·exact h2
   ·exact h2.elim
  ·rw[Qs hw] at *;exact⟨h.1,hK _ _ h.2⟩
theorem qK {P:Program} {md:Region.Mode} {ops:Array Oper} {Q:Exit->Act->World->Prop} {l:Nat} (hd:∀ o∈ops,∀ c,o.op ≠ .defer c):∀ (fuel:Nat) (listed:Array Bool) (a:Act) (w:World),
  wpAnyIn Fence.wide 0 P md ops Q fuel listed a w->wpAnyIn (Fence.wide.inRound l) 0 P md ops Q fuel listed a w
 | 0,_,_,_,h => h
 | fuel+1,listed,a,w,h => ⟨h.1,fun i hi => LG hd (fun a' w' h' => qK hd fuel _ a' w' h') (h.2 i hi)⟩
def Es (ops:Array Oper):Bool:=ops.all fun o=>match o.op with | .defer _=>false | _=>true
theorem oM {ops:Array Oper} (h:Es ops=true):∀ o∈ops,∀ c,o.op ≠ .defer c:=by
 intro o ho c hc;unfold Es at h;rw[Array.all_eq_true_iff_forall_mem] at h;have:=h o ho;rw[hc] at this;simp at this
theorem step_append {P:Program} {ops:Array Oper} {o:Oper} {a:Act} {w:World} {K:Act->World->Prop} {Q:Exit->Act->World->Prop} {E:Prop} (hgd:o.guard=none) (s x:Operand) (t:TypeId)
  (ho:o.op=.call { callee:=.builtin .append,args:=#[s,x],argTypes:=#[t,t] }) (v u v':Value) (w':World) (hs:a.eval s=v) (hx:a.eval x=u)
  (hrun:(Builtin.append_ #[t,t] o.type #[v,u]).run P w=.ok v' w') (h:K (a.put o.dst v') w'):if Region.wanted o (yielded ops a.tmps)=true then Oper.wp P o a w K Q else E:=by
 have hw:Region.wanted o (yielded ops a.tmps)=true:=by simp[Region.wanted,hgd]
 rw[Qr hw];unfold Oper.wp;simp[execOp,ho,resolve,invoke,builtin,hs,hx,hrun,Result.andThen];exact h
def Xv:=@step_append
section
theorem tZ {α:Type} {pre l:List α} {x:α} (h:pre++[x] <+: l):x∈l:=h.subset (by simp)
structure BO (w2:World) (t:TypeId) (X:Nat) (o1:Nat->Prop) (W:World):Prop where
 g:GB W w2.heap.size t #[.int .u64 (X:Int)]
 below:Below w2.heap.size w2 W
 iff:∀ b,o1 b↔b=w2.heap.size
theorem BO.keep {w2:World} {t:TypeId} {X:Nat} {o1:Nat->Prop} {A B:World} {n:Nat} (h:BO w2 t X o1 A) (hn:w2.heap.size<=n) (hk:Kept (fun b=>o1 b∨b<n) A B):BO w2 t X o1 B:=
 ⟨h.g.keep hk (.inl ((h.iff _).2 rfl)),h.below.trans (hk.below h.below.size (fun b hb=>.inr (by omega))),h.iff⟩
theorem BO.step {w2:World} {t:TypeId} {X Y:Nat} {o1:Nat->Prop} {W:World} (h:BO w2 t X o1 W):BO w2 t Y o1 (W.drew.setCell (aD w2.heap.size 0) (.int .u64 (Y:Int)))/\Kept (fun b=>¬ o1 b) W (W.drew.setCell (aD w2.heap.size 0) (.int .u64 (Y:Int))):=by
 have hk:Kept (fun b=>b≠w2.heap.size) W (W.drew.setCell (aD w2.heap.size 0) (.int .u64 (Y:Int))):=(Q9 ((Qp W.heap.size W).drew) (fun b hb _=>hb)).trans (Zv _ _ _ (fun h=>h rfl));exact⟨⟨(h.g.keep (Q9 (s:=fun _=>True) ((Qp W.heap.size W).drew) (fun b hb _=>hb)) trivial).set 0 _,h.below.trans (hk.below h.below.size (fun b hb=>Nat.ne_of_lt hb)),h.iff⟩,hk.mono fun b _ hb e=>hb ((h.iff b).2 e)⟩
attribute [local go_sem] Oper.semAt_some
theorem Ho (f:aB) (ts:List af) (q:ae) (p:bK) (ao:Option Addr) (pl cap:Nat) (w:World) (ok:Ok ts q) (hf:f.At ts q w) (hs:p.sources<2 ^ q.src.xs.length) (hc:p.clauses<2 ^ q.wh.length) (hk:r9 p.kind=false) :
  Calls Tryz.prog 212 #[.agg (f.cells ts q),.agg p.cells,.slice ao pl cap] w fun e w'=>e=.returned (.int .u64 ((mK ts q p.sources p.clauses:Nat):Int))/\Below w.heap.size w w':=by
 have aaj:p.sources<18446744073709551616:=Q8 hs (QZ (n:=2) (by omega) ok.small);have aak:p.clauses<18446744073709551616:=Q8 hc (QZ (n:=2) (by omega) ok.lh);have HSM:Hid (∀ x∈bz p.sources,x<q.src.xs.length):=fun x hx=>Dg hs hx
 have HCM:Hid (∀ x∈bz p.clauses,x<q.wh.length):=fun x hx=>Dg hc hx
 have HSQ:=Zh (oL p.sources aaj);have HCQ:=Zh (oL p.clauses aak);have HR:Hid _:=hf.rows;have HP:Hid _:=hf.parts;have HRL:=Zh (Pq ts q);have su:=Zh (CW ts q);have J6:Hid (∀ x,x<q.src.xs.length->(xZ ts q).getD x 0<=bR):=fun x hx=>by
  rw[CX ts q hx];obtain⟨h0,h1⟩:=uX ok.src (k:=x) hx;have ht:=uU ok.cat (i:=(q.src.xs.getD x 0).toNat) (by omega);unfold dC at ht;rw[Qx] at ht;unfold pJ bR;rw[Q3];omega
 have YH:Hid (∀ x,x<q.wh.length->1<=(sM ts q).getD x 0/\(sM ts q).getD x 0<=1000000):=fun x hx=>by
  rw[wX ts q hx];exact UO ok.cat ok.src (ok.aH x hx)
 obtain⟨X,hX0,UU,hXt,hXa⟩:∃ X:List Nat->Nat,X []=1/\(∀ pre x,x<q.src.xs.length->X (pre++[x])=eU (X pre) ((xZ ts q).getD x 0))/\(∀ pre,X pre<=bR)/\X (bz p.sources)=((bz p.sources).map fun (k:Nat)=>pJ ts q.src.xs (k:Int)).foldl eU 1:=
  ⟨fun pre=>(pre.map fun (k:Nat)=>pJ ts q.src.xs (k:Int)).foldl eU 1,rfl,fun pre x hx=>by simp only[Ql,QM]; rw[CX ts q hx]; rfl,fun pre=>lZ _ 1 (by unfold bR; omega),rfl⟩
 obtain⟨S0,hS0⟩:∃ S0,X (bz p.sources)=S0:=⟨_,rfl⟩
 obtain⟨Y,hY0,hYs,hYt,hYa⟩:∃ Y:List Nat->Nat,Y []=S0/\(∀ pre x,x<q.wh.length->Y (pre++[x])=Y pre / (sM ts q).getD x 0)/\(∀ pre,Y pre<=bR)/\Y (bz p.clauses)=(bz p.clauses).foldl (fun x c=>x / iF ts q.src.xs (q.wh.getD c lz).cs) S0:=
  ⟨fun pre=>pre.foldl (fun x c=>x / iF ts q.src.xs (q.wh.getD c lz).cs) S0,rfl,fun pre x hx=>by simp only[QM]; rw[wX ts q hx]; rfl,fun pre=>Q4 (qI _ pre S0) (by rw[<- hS0]; exact hXt _),rfl⟩
 obtain⟨R,hR⟩:∃ R,R=mK ts q p.sources p.clauses:=⟨_,rfl⟩
 have LH:Hid (R=if S0=0 then 0 else max (Y (bz p.clauses)) 1):=by
  show R=_
  rw[hR];unfold mK;rw[<- hXa,hS0,hYa]
 rw[<- hR];clear hR;have HX0:=Zh hX0;have HXS:=Zh UU;have HXT:=Zh hXt;have HS0:=Zh hS0;have HY0:=Zh hY0;have HYS:=Zh hYs;have HYT:=Zh hYt;clear hX0 UU hXt hXa hS0 hY0 hYs hYt hYa;have hOK:=fun x=>GI p.kind x
 rw[hk] at hOK;obtain⟨v0,v1,v2,v3,v4,v5,v6,v7,v8,v9,v10,v11,v12,dw,-,-,-,-,-,-,-,-,-,-,ahJ,-,adQ⟩:=Z8 f ts q;rw[dw];rw[hf.pl] at adQ;rw[Rc];clear hk hs hc aaj aak dw ok hf;generalize xZ ts q=RL at *;generalize sM ts q=PL at *;generalize bz p.sources=SL at *;generalize bz p.clauses=CL at *;obtain⟨kind,ps,pc,ord,pz1,pz2⟩:=p;simp only at *;generalize ord.val=od at *;obtain⟨w1,hw1,hk1,hg1⟩:=bu w #[v0,v1,v2,v3,v4,v5,v6,v7,v8,v9,v10,v11,v12] 94;obtain⟨w2,hw2,hk2,hg2⟩:=bu w1 #[.int .i64 kind,.int .u64 (ps:Int),.int .u64 (pc:Int),od,.int .u64 (pz1:Int),.int .u64 (pz2:Int)] 117;have hc1:=hk2;have hc0:=aG hk1 hc1;have wI:=hg1.of (hc1.block _ hg1.lt);have l7:=wI.at 10;have l8:=wI.at 12;have Et:=hg2;obtain⟨xh,UW,UX⟩:=Et.k3;rw[ahJ] at l7;rw[adQ] at l8;clear ahJ adQ;obtain⟨w3,hw3,hk3,hg3⟩:=bu w2 #[.int .u64 1] 42;have hz3:Hid (w3.heap.size=w2.heap.size+1):=by rw[<- hw3]; show _=_; simp
 have Rf:=Zh hc0;have pK:=Zh hk3;have wK:Hid _:=hg3;have b1:=cB hk3 UW;have am4:=Zh l7;have am5:=Zh l8;have G22:=Zh UX;clear hk1 hk2 hg1 hg2 wI Et hc0 hc1 hk3 hg3 l7 l8 UX UW;refine (Ze (n:=0)).1 (Zt Tryz.func212 rfl trivial ?_ rfl);simp only[Tryz.ntmps212,Zj,Q5,Zk,Nat.reduceAdd,Nat.reduceSub,Zl,Zm,Zn,Zo,Zp,Zq]
 gi_wp2
 refine⟨trivial,rfl,Ze.2 ((hOK _).mono ?_)⟩;rintro e W ⟨rfl,hWe⟩;have hWe:=hWe.symm;subst hWe;clear hOK
 gi_wp2
 clear b1 xh hw1 hw2 hw3;refine rT jA (gf:=69) (s:=.int .u64 (ps:Int)) rfl (enters_of Tryz.func69 (by kernel_rfl) rfl) (HSQ.out w2) pK.out rfl
  (fun pre o1 W=>BO w2 42 (X pre) o1 W) (fun b=>b=w2.heap.size) ?_ ?_ ⟨by rw[HX0.out]; exact wK.out,pK.out,fun _=>Iff.rfl⟩
  (fun x=>{ tmps:=#[.agg #[v0,v1,v2,v3,v4,v5,v6,v7,v8,v9,v10,v11,v12],.agg #[.int .i64 kind,.int .u64 (ps:Int),.int .u64 (pc:Int),od,.int .u64 (pz1:Int),.int .u64 (pz2:Int)],.slice ao pl cap,.pointer (some (aD w.heap.size 0)),.pointer (some (aD w1.heap.size 0)),undef,.int .u64 0,.pointer (some (aD w2.heap.size 0)),.int .i64 (x:Int),undef,undef,.pointer (some (aD w1.heap.size 0)),.int .i64 kind,.bool false,undef,undef,undef,undef,.pointer (some (aD w1.heap.size 1)),.int .u64 (ps:Int),.func (.func 69) #[.int .u64 (ps:Int)] #[],.int .i64 (x:Int),undef,undef,undef,undef,undef,undef,undef,undef,undef,undef,undef,undef,undef,undef,undef,undef,undef,undef,undef,undef,undef,undef,undef],defers:=[] }) ?assign ?body ?done
 ·rintro b rfl;exact⟨Qq _,by have:=hz3.out; omega⟩
 ·intro pre o1 A B h hk;exact h.keep (by have:=hz3.out; omega) hk
 case assign=>
  intro l x W K hK;have he:jA.enc x=.int .i64 (x:Int):=rfl
  gi_wp2
  exact hK
 case body=>
  intro l pre x o1 W hI hpre hx hoff hsz;have hx':=HSM.out x (tZ (by simpa [jA] using hpre));have hbW:=Rf.out.trans (hI.below.mono Rf.out.size);obtain⟨rb,ro,hra,hrc⟩:=fD.get (fD.below hbW HR.out) (i:=x) (by rw[HRL.out]; exact hx');have hrx:=hrc x (by rw[HRL.out]; exact hx');have hXn:=Zh (HXS.out pre x hx');have hrt:=J6.out x hx';have hXt:=HXT.out pre;have hcx:=hI.g.at 0;have hfx:=hI.g.frozen 0;have adR:=cB hI.below am4.out;rw[hra] at adR;have HI:=Zh hI;clear hrc hpre hx hoff hsz hI hbW hra;generalize RL.getD x 0=rn at *;have hT:=fun y=>tJ (X pre) rn y hXt hrt
  rw[<- hXn.out] at hT;have jO:Hid (∀ act,oC jA (fun pre o1 W=>BO w2 42 (X pre) o1 W) pre x w3.heap.size o1 W .normal act (W.drew.setCell (aD w2.heap.size 0) (.int .u64 (X (pre++[x]):Int)))):=fun _=>⟨o1,HI.out.step.1,HI.out.step.2,fun b hb=>.inl hb⟩
  clear hrt hXt hXn;generalize X (pre++[x])=Xn at *;generalize X pre=Xp at *
  gi_wp2_with fail
  have adS:Tryz.prog.follows .mixedOrders=true:=by kernel_rfl
  refine wpIn_region_any adS (qK (oM (by kernel_rfl)) _ _ _ _ ?_);change wpAnyIn _ _ _ _ _ _ _ _ _ (World.drew _);refine wpAnyIn_take (i:=1) (v:=.pointer (some (aD w.heap.size 10))) rfl rfl (by kernel_rfl) (by kernel_rfl) (by kernel_rfl) (fun _ _ _ h=>h) ⟨Or.inl ⟨by rfl,fun w=>by go_simp⟩,fun _=>rfl⟩ ?_;refine wpAnyIn_take (i:=3) (v:=.int .i64 (x:Int)) rfl rfl (by kernel_rfl) (by kernel_rfl) (by kernel_rfl) (fun _ _ _ h=>h) ⟨Or.inl ⟨by rfl,fun w=>by go_simp⟩,fun _=>rfl⟩ ?_;refine Xw (rs:=[0,2]) (by kernel_rfl) (by simp) ?_;refine Xx rfl (fun K hK=>?_) ?_
  ·skip;go_simp;refine hK _ _ ?_;clear hK K;refine Xw (rs:=[2]) (by kernel_rfl) (by simp) ?_;refine Xx rfl (fun K hK=>?_) Xy;go_simp;refine hK _ _ ?_;clear hK K;refine wpAnyIn_take (i:=4) (v:=.pointer (some (aD rb (ro+x)))) rfl rfl (by kernel_rfl) (by kernel_rfl) (by kernel_rfl) (fun _ _ _ h=>h) ⟨Or.inl ⟨by rfl,fun w=>by go_simp⟩,fun _=>rfl⟩ ?_;refine Xw (rs:=[5]) (by kernel_rfl) (by simp) ?_;refine Xx rfl (fun K hK=>?_) Xy;go_simp;refine hK _ _ ?_;clear hK K;refine Xw (rs:=[6]) (by kernel_rfl) (by simp) ?_;refine Xx rfl (fun K hK=>?_) Xy;go_simp;refine⟨trivial,rfl,Ze.2 ((hT _).mono ?_)⟩;rintro e Wt ⟨rfl,rfl⟩;refine hK _ _ ?_;clear hK K;refine Xw (rs:=[7]) (by kernel_rfl) (by simp) ?_;refine Xx rfl (fun K hK=>?_) Xy;go_simp;refine hK _ _ ?_;clear hK K;refine wpAnyIn_done (by kernel_rfl) ?_ _;exact jO.out ⟨#[],[]⟩
  refine Xx rfl (fun K hK=>?_) Xy;go_simp;refine hK _ _ ?_;clear hK K;refine wpAnyIn_take (i:=4) (v:=.pointer (some (aD rb (ro+x)))) rfl rfl (by kernel_rfl) (by kernel_rfl) (by kernel_rfl) (fun _ _ _ h=>h) ⟨Or.inl ⟨by rfl,fun w=>by go_simp⟩,fun _=>rfl⟩ ?_;refine Xw (rs:=[0,5]) (by kernel_rfl) (by simp) ?_;refine Xx rfl (fun K hK=>?_) ?_
  ·skip;go_simp;refine hK _ _ ?_;clear hK K;refine Xw (rs:=[5]) (by kernel_rfl) (by simp) ?_;refine Xx rfl (fun K hK=>?_) Xy;go_simp;refine hK _ _ ?_;clear hK K;refine Xw (rs:=[6]) (by kernel_rfl) (by simp) ?_;refine Xx rfl (fun K hK=>?_) Xy;go_simp;refine⟨trivial,rfl,Ze.2 ((hT _).mono ?_)⟩;rintro e Wt ⟨rfl,rfl⟩;refine hK _ _ ?_;clear hK K;refine Xw (rs:=[7]) (by kernel_rfl) (by simp) ?_;refine Xx rfl (fun K hK=>?_) Xy;go_simp;refine hK _ _ ?_;clear hK K;refine wpAnyIn_done (by kernel_rfl) ?_ _;exact jO.out ⟨#[],[]⟩
  refine Xx rfl (fun K hK=>?_) Xy;go_simp;refine hK _ _ ?_;clear hK K;refine Xw (rs:=[0]) (by kernel_rfl) (by simp) ?_;refine Xx rfl (fun K hK=>?_) Xy;go_simp;refine hK _ _ ?_;clear hK K;refine Xw (rs:=[6]) (by kernel_rfl) (by simp) ?_;refine Xx rfl (fun K hK=>?_) Xy;go_simp;refine⟨trivial,rfl,Ze.2 ((hT _).mono ?_)⟩;rintro e Wt ⟨rfl,rfl⟩;refine hK _ _ ?_;clear hK K;refine Xw (rs:=[7]) (by kernel_rfl) (by simp) ?_;refine Xx rfl (fun K hK=>?_) Xy;go_simp;refine hK _ _ ?_;clear hK K;refine wpAnyIn_done (by kernel_rfl) ?_ _;exact jO.out ⟨#[],[]⟩
 case done=>
  rintro ys o' W2 hys hI hk2 hg2 hD;have adT:ys=SL:=by simpa [jA] using hys
  subst adT;rw[HS0.out] at hI;have hcp:=hI.g.at 0;have hb2:=hI.below;have hD':=Zh hD;have hlt3:=Zh ((QI.1 hD).1);by_cases h0:S0=0
  ·have am7:Hid (R=0):=by show R=0; rw[LH.out,Qr h0]
   subst h0;clear HXS HYS LH HSQ HCQ HP HR J6 YH HX0 HY0 wK
   gi_wp2
   refine⟨by simp,.inl ⟨_,_,rfl,Zu hD,?_⟩⟩;refine⟨_,results_tmp rfl _ _ _,by rw[am7.out]; rfl,?_⟩;exact Rf.out.trans (((hb2.mono Rf.out.size)).trans ((Za (s:=fun b=>b<w.heap.size) _ _ (by have:=Rf.out.size; have:=hz3.out; omega)).below (Q4 Rf.out.size hb2.size) (fun _ h=>h)))
  ·have am8:Hid (R=max (Y CL) 1):=by show R=_; rw[LH.out,Qs h0]
   have h0b:((S0:Int)==0)=false:=by rw[Z6]; omega
   obtain⟨W3,hW3⟩:∃ x,W2.alloc (.cells #[.int .u64 (S0:Int)] 42)=x:=⟨_,rfl⟩
   have BN:Below W2.heap.size W2 W3:=by rw[<- hW3]; exact bU _ _
   have am9:Hid (GB W3 W2.heap.size 42 #[.int .u64 (S0:Int)]):=by rw[<- hW3]; exact kG _ _
   have aam:Hid (W3.heap.size=W2.heap.size+1):=by rw[<- hW3]; show _=_; simp
   have c2:=cB BN (cB hb2 G22.out);have nZ:=Zh BN;have HB2:=Zh hb2;clear h0 HXS HSQ LH HR J6 HX0 wK hk2 hg2 hD hI BN hb2
   gi_wp2
   clear c2 hcp hW3 h0b;refine rT jA (gf:=69) (s:=.int .u64 (pc:Int)) rfl (enters_of Tryz.func69 (by kernel_rfl) rfl) (HCQ.out W2) nZ.out rfl
    (fun pre o1 W=>BO W2 42 (Y pre) o1 W) (fun b=>b=W2.heap.size) ?_ ?_ ⟨by rw[HY0.out]; exact am9.out,nZ.out,fun _=>Iff.rfl⟩
    (fun x=>{ tmps:=#[.agg #[v0,v1,v2,v3,v4,v5,v6,v7,v8,v9,v10,v11,v12],.agg #[.int .i64 kind,.int .u64 (ps:Int),.int .u64 (pc:Int),od,.int .u64 (pz1:Int),.int .u64 (pz2:Int)],.slice ao pl cap,.pointer (some (aD w.heap.size 0)),.pointer (some (aD w1.heap.size 0)),undef,.int .u64 0,.pointer (some (aD w2.heap.size 0)),undef,.pointer (some (aD W2.heap.size 0)),.int .i64 (x:Int),.pointer (some (aD w1.heap.size 0)),.int .i64 kind,.bool false,undef,undef,undef,undef,.pointer (some (aD w1.heap.size 1)),.int .u64 (ps:Int),.func (.func 69) #[.int .u64 (ps:Int)] #[],undef,undef,undef,undef,undef,undef,undef,undef,.int .u64 (S0:Int),.bool false,.int .u64 (S0:Int),.pointer (some (aD w1.heap.size 2)),.int .u64 (pc:Int),.func (.func 69) #[.int .u64 (pc:Int)] #[],.int .i64 (x:Int),undef,undef,undef,undef,undef,undef,undef,undef,undef],defers:=[] }) ?aan ?ahK ?ahL
   ·rintro b rfl;exact⟨Qq _,by have:=aam.out; omega⟩
   ·intro pre o1 A B h hk;exact h.keep (by have:=aam.out; omega) hk
   case aan=>
    intro l x W K hK;have he:jA.enc x=.int .i64 (x:Int):=rfl
    gi_wp2
    exact hK
   case ahK=>
    intro l pre x o1 W hI hpre hx hoff hsz;have hx':=HCM.out x (tZ (by simpa [jA] using hpre));have adU:=HB2.out.trans (hI.below.mono HB2.out.size);have hbW:=Rf.out.trans (adU.mono Rf.out.size);obtain⟨rb,ro,hra,hrc⟩:=fD.get (fD.below hbW HP.out) (i:=x) (by rw[su.out]; exact hx');have hrx:=hrc x (by rw[su.out]; exact hx');have hXn:=Zh (HYS.out pre x hx');obtain⟨hr1,hrt⟩:=YH.out x hx';have hXt:=HYT.out pre;have hcx:=hI.g.at 0;have hfx:=hI.g.frozen 0;have adR:=cB adU am5.out;rw[hra] at adR;have HI:=Zh hI;clear hrc hpre hx hoff hsz hI hbW hra adU;generalize PL.getD x 0=rn at *;have jO:Hid (∀ act,oC jA (fun pre o1 W=>BO W2 42 (Y pre) o1 W) pre x W3.heap.size o1 W .normal act (W.drew.setCell (aD W2.heap.size 0) (.int .u64 (Y (pre++[x]):Int)))):=fun _=>⟨o1,HI.out.step.1,HI.out.step.2,fun b hb=>.inl hb⟩
    have HQ:Hid (Y pre<=18446744073709551615):=hXt;generalize Y (pre++[x])=Xn at *;generalize Y pre=Xp at *;have hq':((Xp:Int)).tdiv (rn:Int)=(Xn:Int):=by
     rw[hXn.out,Int.tdiv_eq_ediv_of_nonneg (by omega),Int.natCast_ediv]
    have hwn:IntKind.u64.wrap (Xn:Int)=(Xn:Int):=Ec (by have:=HQ.out; rw[hXn.out]; have:=Nat.div_le_self Xp rn; omega);have hrn:¬ rn=0:=by omega
    clear hXt hXn
    gi_wp2_with fail
    have adS:Tryz.prog.follows .mixedOrders=true:=by kernel_rfl
    refine wpIn_region_any adS (qK (oM (by kernel_rfl)) _ _ _ _ ?_);change wpAnyIn _ _ _ _ _ _ _ _ _ (World.drew _);refine wpAnyIn_take (i:=1) (v:=.pointer (some (aD w.heap.size 12))) rfl rfl (by kernel_rfl) (by kernel_rfl) (by kernel_rfl) (fun _ _ _ h=>h) ⟨Or.inl ⟨by rfl,fun w=>by go_simp⟩,fun _=>rfl⟩ ?_;refine wpAnyIn_take (i:=3) (v:=.int .i64 (x:Int)) rfl rfl (by kernel_rfl) (by kernel_rfl) (by kernel_rfl) (fun _ _ _ h=>h) ⟨Or.inl ⟨by rfl,fun w=>by go_simp⟩,fun _=>rfl⟩ ?_;refine Xw (rs:=[0,2]) (by kernel_rfl) (by simp) ?_;refine Xx rfl (fun K hK=>?_) ?_
    ·skip;go_simp;refine hK _ _ ?_;clear hK K;refine Xw (rs:=[2]) (by kernel_rfl) (by simp) ?_;refine Xx rfl (fun K hK=>?_) Xy;go_simp;refine hK _ _ ?_;clear hK K;refine wpAnyIn_take (i:=4) (v:=.pointer (some (aD rb (ro+x)))) rfl rfl (by kernel_rfl) (by kernel_rfl) (by kernel_rfl) (fun _ _ _ h=>h) ⟨Or.inl ⟨by rfl,fun w=>by go_simp⟩,fun _=>rfl⟩ ?_;refine Xw (rs:=[5]) (by kernel_rfl) (by simp) ?_;refine Xx rfl (fun K hK=>?_) Xy;go_simp;refine hK _ _ ?_;clear hK K;refine Xw (rs:=[6]) (by kernel_rfl) (by simp) ?_;refine Xx rfl (fun K hK=>?_) Xy;go_simp;refine hK _ _ ?_;clear hK K;refine Xw (rs:=[7]) (by kernel_rfl) (by simp) ?_;refine Xx rfl (fun K hK=>?_) Xy;go_simp;refine hK _ _ ?_;clear hK K;refine wpAnyIn_done (by kernel_rfl) ?_ _;exact jO.out ⟨#[],[]⟩
    refine Xx rfl (fun K hK=>?_) Xy;go_simp;refine hK _ _ ?_;clear hK K;refine wpAnyIn_take (i:=4) (v:=.pointer (some (aD rb (ro+x)))) rfl rfl (by kernel_rfl) (by kernel_rfl) (by kernel_rfl) (fun _ _ _ h=>h) ⟨Or.inl ⟨by rfl,fun w=>by go_simp⟩,fun _=>rfl⟩ ?_;refine Xw (rs:=[0,5]) (by kernel_rfl) (by simp) ?_;refine Xx rfl (fun K hK=>?_) ?_
    ·skip;go_simp;refine hK _ _ ?_;clear hK K;refine Xw (rs:=[5]) (by kernel_rfl) (by simp) ?_;refine Xx rfl (fun K hK=>?_) Xy;go_simp;refine hK _ _ ?_;clear hK K;refine Xw (rs:=[6]) (by kernel_rfl) (by simp) ?_;refine Xx rfl (fun K hK=>?_) Xy;go_simp;refine hK _ _ ?_;clear hK K;refine Xw (rs:=[7]) (by kernel_rfl) (by simp) ?_;refine Xx rfl (fun K hK=>?_) Xy;go_simp;refine hK _ _ ?_;clear hK K;refine wpAnyIn_done (by kernel_rfl) ?_ _;exact jO.out ⟨#[],[]⟩
    refine Xx rfl (fun K hK=>?_) Xy;go_simp;refine hK _ _ ?_;clear hK K;refine Xw (rs:=[0]) (by kernel_rfl) (by simp) ?_;refine Xx rfl (fun K hK=>?_) Xy;go_simp;refine hK _ _ ?_;clear hK K;refine Xw (rs:=[6]) (by kernel_rfl) (by simp) ?_;refine Xx rfl (fun K hK=>?_) Xy;go_simp;refine hK _ _ ?_;clear hK K;refine Xw (rs:=[7]) (by kernel_rfl) (by simp) ?_;refine Xx rfl (fun K hK=>?_) Xy;go_simp;refine hK _ _ ?_;clear hK K;refine wpAnyIn_done (by kernel_rfl) ?_ _;exact jO.out ⟨#[],[]⟩
   case ahL=>
    rintro ys o' W4 hys hI hk4 hg4 hD4;have adT:CL=ys:=by symm; simpa [jA] using hys
    subst adT;have hcp:=hI.g.at 0;have hb4:=hI.below;have hYt:=HYT.out CL;have ana:Hid _:=am8;generalize Y CL=yv at *;obtain⟨rv,hrv⟩:∃ rv,rv=max yv 1:=⟨_,rfl⟩
    have hmx:max (yv:Int) 1=(rv:Int):=by omega
    have auo:max (1:Int) (yv:Int)=(rv:Int):=by omega
    have hif:(if (yv:Int)<1 then 1 else (yv:Int))=(rv:Int):=by split <;> omega
    have HRV:Hid (R=rv):=by show R=rv; rw[hrv]; exact ana.out
    have hDD:=(hb4.block _ hlt3.out).trans hD'.out;clear hrv HYS HCQ HP YH HY0 HYT hk4 hg4
    gi_wp2
    refine⟨by simp,.inl ⟨_,_,rfl,Zu hD4,?_⟩⟩;refine⟨by simp,.inl ⟨_,_,rfl,Zu ((Zb (by have:=hlt3.out; have:=aam.out; omega)).trans hDD),?_⟩⟩;refine⟨_,results_tmp rfl _ _ _,by rw[HRV.out]; rfl,?_⟩;have s0:=Rf.out.size;have s3:=hz3.out;have s4:=aam.out;have s5:=hb4.size;have s6:=hlt3.out;refine Rf.out.trans (((HB2.out.mono s0)).trans ((hb4.mono (by omega)).trans (((Za (s:=fun b=>b<w.heap.size) _ _ (by omega)).below (by omega) (fun _ h=>h)).trans ((Za (s:=fun b=>b<w.heap.size) _ _ (by omega)).below (by rw[World.putObj_size]; omega) (fun _ h=>h)))))
end
theorem LJ (f:aB) (ts:List af) (q:ae) (p:bK) (ao:Option Addr) (cap:Nat) (ps:List bK) (w:World) (hp:PartsAt w ao ps) (h0:0<ps.length) (hk:r9 p.kind=true) :
  Calls Tryz.prog 212 #[.agg (f.cells ts q),.agg p.cells,.slice ao ps.length cap] w fun e w'=>e=.returned (.int .u64 (((ps.getD 0 dM).size:Nat):Int))/\Below w.heap.size w w':=by
 obtain⟨⟨pb,po,rfl,c0,c1,c2,c3,c4,c5⟩,-⟩:=hp.2 0 h0;rw[QD,ZU] at c4;have hOK:=fun x=>GI p.kind x
 rw[hk] at hOK;generalize f.cells ts q=FC at *;obtain⟨w1,hw1,hk1,hg1⟩:=bu w FC 94;obtain⟨w2,hw2,hk2,hg2⟩:=bu w1 p.cells 117;have hc1:=hk2;have hc0:=aG hk1 hc1;have Et:=hg2;have xh:=Et.at 0;have d4:=cB hc0 c4;have HC:=Zh hc0;generalize p.kind=k at *;generalize (ps.getD 0 dM).size=z at *;generalize p.cells=PC at *;clear hk hp c0 c1 c2 c3 c4 c5 hk1 hk2 hg1 hg2 Et hc0 hc1;go_enter Tryz.func212,Tryz.ntmps212;go_wp2_with fail;refine (hOK _).mono ?_;rintro e w3 ⟨rfl,rfl⟩;go_wp2;go_ret;exact⟨rfl,HC.out⟩
theorem LK (f:aB) (ts:List af) (q:ae) (p:bK) (ao:Option Addr) (cap:Nat) (ps:List bK) (w:World) (ok:Ok ts q) (hf:f.At ts q w) (hp:PartsAt w ao ps) (hs:p.sources<2 ^ q.src.xs.length) (hc:p.clauses<2 ^ q.wh.length) (h0:r9 p.kind=true->0<ps.length) :
  Calls Tryz.prog 212 #[.agg (f.cells ts q),.agg p.cells,.slice ao ps.length cap] w fun e w'=>e=.returned (.int .u64 (((if r9 p.kind=true then (ps.getD 0 dM).size else mK ts q p.sources p.clauses):Nat):Int))/\Below w.heap.size w w':=by
 cases hk:r9 p.kind with
 | true =>
  rw[Qr rfl];exact LJ f ts q p ao cap ps w hp (h0 hk) hk
 | false =>
  rw[Qs (by simp)];exact Ho f ts q p ao ps.length cap w ok hf hs hc hk
theorem zU (n:az) (w:World) (h:n.kind=1->0<=n.source/\n.source<64) :
  Calls Tryz.prog 211 #[.agg n.cells] w fun e w'=>e=.returned (.int .u64 (((if n.kind=1 then 2 ^ n.source.toNat else 0):Nat):Int))/\Below w.heap.size w w':=by
 obtain⟨w1,hw1,hk1,hg1⟩:=bu w n.cells 71;have hc0:=hk1;have wI:=hg1;have mJ:=wI.at 0;have uf:=wI.at 3;have HC:=Zh hc0;clear hg1 wI hk1 hc0;generalize n.cells=NC at *;by_cases k1:n.kind=1
 ·obtain⟨h0,h1⟩:=h k1;obtain⟨s,hs⟩:=ZZ h0;rw[Qr k1];have hS:=rQ w1.heap.size s (w1.alloc (.cells #[.int .i64 (s:Int)] 3)) (by simp) (by omega);have e2:2 ^ n.source.toNat=2 ^ s:=by rw[hs]; rfl
  rw[e2];obtain⟨R,hR2⟩:∃ R,R=2 ^ s:=⟨_,rfl⟩
  rw[<- hR2] at hS ⊢;clear e2 hR2;rw[hs] at uf;rw[k1] at mJ;have HB:Hid (Below w.heap.size w (w1.alloc (.cells #[.int .i64 (s:Int)] 3))):=HC.out.trans ((bU _ _).mono HC.out.size);clear h hs k1 h0 h1;go_enter Tryz.func211,Tryz.ntmps211;go_wp2_with fail;refine hS.mono ?_;rintro e w3 ⟨rfl,rfl⟩;go_wp2;go_ret;exact⟨rfl,HB.out⟩
 ·rw[Qs k1];have kb:(n.kind==1)=false:=by simp[k1]
  generalize n.kind=k at *;go_enter Tryz.func211,Tryz.ntmps211;go_wp2;go_ret;exact⟨rfl,HC.out⟩
theorem Eu (ts:List af) (q:ae) {cs:List aj} {k:Nat} (hk:k<cs.length):bT (dS ts q (bV (cs.take (k+1))))=bT (dS ts q (bV (cs.take k)))|||bT (dS ts q (aK (cs.getD k cz))):=by
 rw[BJ hk];unfold dS;rw[Ql,yf]
theorem Ev {cs:List aj} {k:Nat} {c:Int} (h:c∈bV (cs.take k)):c∈bV cs:=by
 obtain⟨x,hx,hc⟩:=Xz.1 h;exact Xz.2 ⟨x,ZX hx,hc⟩
theorem Ew (f:aB) (ts:List af) (q:ae) (ca:Option Addr) (cc:Nat) (cs:List aj) (w:World) (ok:Ok ts q) (hf:jd w f.ca (jI ts q)) (hx:aR w ca cs) (kR:eT ts q (bV cs)) :
  Calls Tryz.prog 73 #[.agg (f.cells ts q),.agg #[.slice ca cs.length cc]] w fun e w'=>e=.returned (.int .u64 ((bT (jF ts q.src.xs cs):Nat):Int))/\Below w.heap.size w w':=by
 obtain⟨v0,v1,v2,v3,v4,v5,v6,v7,v8,v9,v10,v11,v12,dw,-⟩:=Z8 f ts q;obtain⟨w1,hw1,hk1,hg1⟩:=bu w ((f.cells ts q)) 94;obtain⟨w2,hw2,hk2,hg2⟩:=bu w1 #[.slice ca cs.length cc] 77;have hc1:=hk2;have hc0:=aG hk1 hc1;have wI:=hg1.of (hc1.block _ hg1.lt);have Et:=hg2;have xh:=Et.at 0;obtain⟨mJ,sw,xq,uf,sj,xu,xw,zV,zW,zX,l7,qL,l8⟩:=wI.k13 (by rw[dw]; rfl);have YI:=Zh ((hx.below hc0).2);have yu:Hid (∀ x xa xc k,k<cs.length->Below w2.heap.size w2 x->au x xa (aK (cs.getD k cz))->Calls Tryz.prog 117 #[.agg (f.cells ts q),.slice xa (aK (cs.getD k cz)).length xc] x fun e w'=>e=.returned (.int .u64 ((bT (dS ts q (aK (cs.getD k cz))):Nat):Int))/\Below x.heap.size x w'):=
  fun x xa xc k hk hb h=>nC f ts q xa xc _ x ok (hf.below (aG hc0 hb)) h (fun c hc=>kR c (Xz.2 ⟨_,ZM hk,hc⟩))
 have HCC:Hid (∀ x c,_):=fun x c=>pQ c x
 have HST:Hid (∀ k,k<cs.length->bT (dS ts q (bV (cs.take (k+1))))=bT (dS ts q (bV (cs.take k)))|||bT (dS ts q (aK (cs.getD k cz)))):=fun k hk=>Eu ts q hk
 have Da:Hid (∀ k,bT (dS ts q (bV (cs.take k)))<18446744073709551616):=fun k=>(tL ok (fun c hc=>kR c (Ev hc))).lt ok.small
 have nR:Hid (∀ k,k<cs.length->bT (dS ts q (aK (cs.getD k cz)))<18446744073709551616):=fun k hk=>(tL ok (fun c hc=>kR c (Xz.2 ⟨_,ZM hk,hc⟩))).lt ok.small
 have TU:Hid (bT (dS ts q (bV (cs.take cs.length)))=bT (jF ts q.src.xs cs)):=by show _=_; rw[Qt]; rfl
 have HS0:Hid (bT (dS ts q (bV (cs.take 0)))=0):=rfl;have hcl:=hx.1;have HC:=Zh hc0;obtain⟨ST,hST⟩:∃ ST:Nat->Nat,ST=fun k=>bT (dS ts q (bV (cs.take k))):=⟨_,rfl⟩
 obtain⟨SK,hSK⟩:∃ SK:aj->Nat,SK=fun c=>bT (dS ts q (aK c)):=⟨_,rfl⟩
 have nD:Hid (∀ k,k<cs.length->ST (k+1)=ST k|||SK (cs.getD k cz)):=by rw[hST,hSK]; exact HST.out
 have adA:Hid (∀ k,ST k<18446744073709551616):=by rw[hST]; exact Da.out
 have anb:Hid (∀ k,k<cs.length->SK (cs.getD k cz)<18446744073709551616):=by rw[hSK]; exact nR.out
 have adB:Hid (ST cs.length=bT (jF ts q.src.xs cs)):=by rw[hST]; exact TU.out
 have adC:Hid (ST 0=0):=by rw[hST]; exact HS0.out
 have anc:Hid (∀ x xa xc k,k<cs.length->Below w2.heap.size w2 x->au x xa (aK (cs.getD k cz))->Calls Tryz.prog 117 #[.agg #[v0,v1,v2,v3,v4,v5,v6,v7,v8,v9,v10,v11,v12],.slice xa (aK (cs.getD k cz)).length xc] x fun e w'=>e=.returned (.int .u64 ((SK (cs.getD k cz):Nat):Int))/\Below x.heap.size x w'):=by rw[hSK,<- dw]; exact yu.out
 rw[dw] at hw1 ⊢;generalize bT (jF ts q.src.xs cs)=R at *;go_enter Tryz.func73,Tryz.ntmps73;go_wp2;go_loopw [5,11] (fun sv iv wr=>∃ k:Nat,k<=cs.length/\iv=.int .i64 k/\(∃ s:Nat,sv=.int .u64 (s:Int)/\Hid (s=ST k))/\Below w2.heap.size w2 wr) (fun _ iv _=>cs.length-(intOf iv).toNat)
 case atStart=>exact⟨0,QQ _,rfl,⟨0,rfl,adC.out.symm⟩,Qp _ _⟩
 case round=>
  obtain⟨k,hk,rfl,⟨s,rfl,hs⟩,hbr⟩:=hrel;by_cases hlt:k<cs.length
  ·obtain⟨cb,co,rfl,c0,c1,c2,c3,c4⟩:=YI.out k hlt;have d0:=cB hbr c0;have d1:=cB hbr c1;have d2:=cB hbr c2;have d3:=cB hbr c3;have d4:=cB hbr c4;have HT:=Zh (nD.out k hlt);have hsl:s<18446744073709551616:=by rw[hs.out]; exact adA.out k
   have hs1:=anb.out k hlt;have aap:Hid (∀ x xa xc,_->_->_):=fun x xa xc hb h=>anc.out x xa xc k hlt hb h
   rw[<- hs.out] at HT;generalize cs.getD k cz=c at *;have Oi:=fun x=>HCC.out x c
   generalize SK c=m at *;generalize aK c=CC at *;obtain⟨wb,hwb,hkb,hgb⟩:=bu wr #[.bool c.not,.int .i64 c.op,.int .i64 c.left,.bool c.const,.int .i64 c.right] 73;obtain⟨b0,b1,b2,b3,b4⟩:=hgb.k5;have hbw:=aG hbr hkb;have j0:=cB hbw mJ;have j1:=cB hbw sw;have j2:=cB hbw xq;have j3:=cB hbw uf;have j4:=cB hbw sj;have j5:=cB hbw xu;have j6:=cB hbw xw;have j7:=cB hbw zV;have j8:=cB hbw zW;have j9:=cB hbw zX;have j10:=cB hbw l7;have j11:=cB hbw qL;have j12:=cB hbw l8;have jV:=Zh hbw;obtain⟨ane,cop,cleft,adV,adW⟩:=c;unfold aj.val at *;simp only at *;go_wp2;refine wH wb fun hS=>?_
   refine wt 0 (.int .u64 (s:Int)) hS ?_;refine wT 1 (.agg #[v0,v1,v2,v3,v4,v5,v6,v7,v8,v9,v10,v11,v12]) hS (fun x hx=>?_) ?_
   ·have e0:=qd hx j0 j1 j2 j3 j4 j5 j6 j7 j8 j9 j10 j11 j12;go_simp
   refine wT 2 (.agg #[.bool ane,.int .i64 cop,.int .i64 cleft,.bool adV,.int .i64 adW]) hS (fun x hx=>?_) ?_
   ·have e0:=cR5 hx b0 b1 b2 b3 b4;go_simp
   refine wR 3 fun K hK=>?_
   go_simp;refine Z7 (Oi _) ?_;rintro e w3 ⟨b,rfl,hcc,hb3⟩;refine oT hK hS hb3 fun hS=>?_
   refine wR 4 fun K hK=>?_
   go_simp;refine Z7 (aap.out _ _ _ (aG jV.out hS) hcc) ?_;rintro e w4 ⟨rfl,hb4⟩;refine oT hK hS hb4 fun hS=>?_
   refine wR 5 fun K hK=>?_
   go_simp;refine oA hK hS fun hS=>?_
   refine wR 6 fun K hK=>?_
   go_simp;refine Z7 (jq w4.heap.size s m _ (by simp) (by simp) hsl hs1) ?_;rintro e w5 ⟨rfl,rfl⟩;refine hK.out _ _ hS fun hS=>?_
   refine wR 7 fun K hK=>?_
   go_simp;refine hK.out _ _ hS fun hS=>?_
   refine wD ?_
   try simp only[pU]
   have HBN:=Zh (aG jV.out hS);go_wp2;go_roundw
   case rel=>exact⟨k+1,by omega,by go_num,⟨s|||m,rfl,HT.out.symm⟩,HBN.out⟩
   case measure=>simp[intOf]; omega
  ·obtain rfl:k=cs.length:=by omega
   have HV:=Zh (hs.out.trans adB.out);have HB:=Zh (aG HC.out hbr);go_wp2;go_ret;exact⟨Qe (by rw[HV.out]),HB.out⟩
def iT (ts:List af) (q:ae) (l:List Int):Nat:=(l.map fun c=>(iQ ts q.src.xs c).toNat).foldl max 0
theorem yw (ts:List af) (q:ae) {l:List Int} {k:Nat} (hk:k<l.length):iT ts q (l.take (k+1))=max (iT ts q (l.take k)) (iQ ts q.src.xs (l.getD k 0)).toNat:=by
 have e:l.getD k 0=l[k]:=by simp[List.getD,hk]
 unfold iT;rw[Qk hk,Ql,QM,e];rfl
theorem LM (ts:List af) (q:ae) {cs:List aj} (h1:¬ 1<cs.length) (h0:0<cs.length) (hn:(cs.getD 0 cz).not=false) (h2:(cs.getD 0 cz).op≠1) (h3:(cs.getD 0 cz).op≠2):iF ts q.src.xs cs=iT ts q (aK (cs.getD 0 cz)):=by
 unfold iF iT aK;rw[Qs (by rw[hn]; rintro (h | h); exact h (by omega); cases h),Qs h2,Qs h3]
 cases hc:(cs.getD 0 cz).const with
 | true => rw[Qr rfl,Qs (by simp)]; simp
 | false => rw[Qs (by simp),Qr ⟨h3,rfl⟩]; simp
theorem Rh {ts:List af} {q:ae} (ok:Ok ts q) {l:List Int} (h:eT ts q l) (k:Nat):iT ts q (l.take k)<=1000000:=by
 induction k with
 | zero => simp[iT]
 | succ k ih =>
  by_cases hk:k<l.length
  ·rw[yw ts q hk];obtain⟨h0,h1⟩:=h _ (ZM hk (d:=0));have:=(uV ok.cat ok.src h0 h1).2;omega
  ·rw[ZY (by omega)];rw[ZY (by omega)] at ih;exact ih
theorem LP (f:aB) (ts:List af) (q:ae) (ca:Option Addr) (cc:Nat) (cs:List aj) (w:World) (ok:Ok ts q) (hf:jd w f.ca (jI ts q)) (hx:aR w ca cs) (h0:0<cs.length) (kR:eT ts q (bV cs)) :
  Calls Tryz.prog 74 #[.agg (f.cells ts q),.agg #[.slice ca cs.length cc]] w fun e w'=>e=.returned (.int .u64 ((iF ts q.src.xs cs:Nat):Int))/\Below w.heap.size w w':=by
 obtain⟨cb,co,rfl,c0,c1,c2,c3,c4⟩:=hx.2 0 h0;have hcl:=hx.1;rw[QD,ZU] at c0 c1 c2 c3 c4;have UY:eT ts q (aK (cs.getD 0 cz)):=fun c hc=>kR c (Xz.2 ⟨_,ZM h0,hc⟩)
 have Ua:Hid _:=@LM ts q cs;have HPN:Hid (iF ts q.src.xs cs=if cs.length≠1∨(cs.getD 0 cz).not=true then 2 else if (cs.getD 0 cz).op=1 then 3 else if (cs.getD 0 cz).op=2 then 10 else iF ts q.src.xs cs):=by
  show _=_
  unfold iF
  repeat' split
  all_goals rfl
 generalize iF ts q.src.xs cs=R at *;generalize cs.getD 0 cz=c at *;obtain⟨not,op,left,const,right⟩:=c;simp only at *;obtain⟨w1,hw1,hk1,hg1⟩:=bu w ((f.cells ts q)) 94;obtain⟨w2,hw2,hk2,hg2⟩:=bu w1 #[.slice (some (aD cb co)) cs.length cc] 77;obtain⟨w3,hw3,hk3,hg3⟩:=bu w2 #[.bool not,.int .i64 op,.int .i64 left,.bool const,.int .i64 right] 73;have hc2:=aG hk1 hk2;have hc3:=aG hc2 hk3;have aar:=aG hk2 hk3;have d0:=cB hc2 c0;have d1:=cB hc2 c1;have d2:=cB hc2 c2;have d3:=cB hc2 c3;have d4:=cB hc2 c4;have m0:w2.cell? (aD w1.heap.size 0)=some (.slice (some (aD cb co)) cs.length cc):=hg2.cell 0;have m0':=cB hk3 m0;have b0:w3.cell? (aD w2.heap.size 0)=some (.bool not):=hg3.cell 0;have b1:w3.cell? (aD w2.heap.size 1)=some (.int .i64 op):=hg3.cell 1;have b2:w3.cell? (aD w2.heap.size 2)=some (.int .i64 left):=hg3.cell 2;have b3:w3.cell? (aD w2.heap.size 3)=some (.bool const):=hg3.cell 3;have b4:w3.cell? (aD w2.heap.size 4)=some (.int .i64 right):=hg3.cell 4;have q7:w1.cell? (aD w.heap.size 7)=some (.slice f.ca (jI ts q).length f.cc):=hg1.cell 7;have q7':=cB aar q7;have HC:Hid _:=hc3;have mO:Hid _:=hf.below hc3;have aus:=hf.1;have Oi:=pQ ⟨not,op,left,const,right⟩ w3;unfold aj.val at Oi;simp only at Oi;have HXC:Hid (∀ k,k<(aK ⟨not,op,left,const,right⟩).length->∃ n kd:Nat,(aK ⟨not,op,left,const,right⟩).getD k 0=n/\n<(jI ts q).length/\((jI ts q).getD n (0,0)).2=(kd:Int)/\kd=(iQ ts q.src.xs ((aK ⟨not,op,left,const,right⟩).getD k 0)).toNat/\kd<=1000000):=fun k hk=>by
  obtain⟨h0,h1⟩:=UY _ (ZM hk (d:=0));have h2:=C9 ok;have h3:=uV ok.cat ok.src h0 h1;refine⟨((aK ⟨not,op,left,const,right⟩).getD k 0).toNat,(iQ ts q.src.xs ((aK ⟨not,op,left,const,right⟩).getD k 0)).toNat,by omega,by omega,?_,rfl,by omega⟩;have e:((jI ts q).getD ((aK ⟨not,op,left,const,right⟩).getD k 0).toNat (0,0)).2=iQ ts q.src.xs ((aK ⟨not,op,left,const,right⟩).getD k 0):=rfl;rw[e];omega
 have HKT:Hid (∀ k,k<(aK ⟨not,op,left,const,right⟩).length->iT ts q ((aK ⟨not,op,left,const,right⟩).take (k+1))=max (iT ts q ((aK ⟨not,op,left,const,right⟩).take k)) (iQ ts q.src.xs ((aK ⟨not,op,left,const,right⟩).getD k 0)).toNat):=fun k hk=>yw ts q hk
 have HKL:Hid (∀ k,iT ts q ((aK ⟨not,op,left,const,right⟩).take k)<=1000000):=fun k=>Rh ok UY k
 have J7:Hid (iT ts q ((aK ⟨not,op,left,const,right⟩).take (aK ⟨not,op,left,const,right⟩).length)=iT ts q (aK ⟨not,op,left,const,right⟩)):=by show _=_; rw[Qt]
 have Rf:Hid (iT ts q ((aK ⟨not,op,left,const,right⟩).take 0)=0):=rfl;have anf:Hid ((aK ⟨not,op,left,const,right⟩).length<=2):=Ee _;generalize aK ⟨not,op,left,const,right⟩=CC at *;generalize f.cells ts q=FC at *;obtain⟨KT,hKT⟩:∃ KT:Nat->Nat,KT=fun k=>iT ts q (CC.take k):=⟨_,rfl⟩
 have UZ:Hid (∀ k,k<CC.length->KT (k+1)=max (KT k) (iQ ts q.src.xs (CC.getD k 0)).toNat):=by rw[hKT]; exact HKT.out
 have U0:Hid (∀ k,KT k<=1000000):=by rw[hKT]; exact HKL.out
 have Ri:Hid (KT CC.length=iT ts q CC):=by rw[hKT]; exact J7.out
 have U1:Hid (KT 0=0):=by rw[hKT]; exact Rf.out
 clear hKT HKT HKL J7 Rf c0 c1 c2 c3 c4 hk1 hk2 hk3 hc2 hc3 aar hg1 hg2 hg3 hf hx kR UY ok;by_cases h1:1<cs.length
 ·have HV:Hid (R=2):=by show _=_; rw[HPN.out,Qr (.inl (by omega))]
  clear HPN Ua HXC UZ U0 Ri U1 mO Oi;go_enter Tryz.func74,Tryz.ntmps74;go_wp2;go_ret;exact⟨Qe (by rw[HV.out]; rfl),HC.out⟩
 cases not with
 | true =>
  have HV:Hid (R=2):=by show _=_; rw[HPN.out,Qr (.inr rfl)]
  clear HPN Ua HXC UZ U0 Ri U1 mO Oi;go_enter Tryz.func74,Tryz.ntmps74;go_wp2;go_ret;exact⟨Qe (by rw[HV.out]; rfl),HC.out⟩
 | false =>
  have hn1:¬ (cs.length≠1∨false=true):=by rintro (h | h); exact h (by omega); cases h
  by_cases o1:op=1
  ·have HV:Hid (R=3):=by show _=_; rw[HPN.out,Qs hn1,Qr o1]
   subst o1;clear HPN Ua HXC UZ U0 Ri U1 mO Oi hn1;go_enter Tryz.func74,Tryz.ntmps74;go_wp2;go_ret;exact⟨Qe (by rw[HV.out]; rfl),HC.out⟩
  by_cases o2:op=2
  ·have HV:Hid (R=10):=by show _=_; rw[HPN.out,Qs hn1,Qs o1,Qr o2]
   subst o2;clear HPN Ua HXC UZ U0 Ri U1 mO Oi hn1;go_enter Tryz.func74,Tryz.ntmps74;go_wp2;go_ret;exact⟨Qe (by rw[HV.out]; rfl),HC.out⟩
  have HV:Hid (R=iT ts q CC):=Ua.out h1 h0 rfl o1 o2;have kb1:(op==1)=false:=by simp[o1]
  have kb2:(op==2)=false:=by simp[o2]
  rw[<- Ri.out] at HV;clear HPN Ua hn1 o1 o2 Ri;generalize iQ ts q.src.xs=KN at *;generalize jI ts q=CS at *;go_enter Tryz.func74,Tryz.ntmps74;go_wp2_with fail;refine Oi.mono ?_;clear Oi hw1 hw2 hw3;rintro e w4 ⟨xb,rfl,hxi,hb4⟩;have ang:=cB hb4 q7';have HC4:Hid _:=aG HC.out hb4;have anh:Hid (jd w4 f.ca CS):=jd.below hb4 mO.out;have HXI:Hid _:=hxi;have hxl:=anf.out;clear hb4 hxi mO HC m0 m0' b0 b1 b2 b3 b4 q7 q7' d0 d1 d2 d3 d4;go_wp2;go_loop [6,30] (fun sv iv=>∃ k:Nat,k<=CC.length/\iv=.int .i64 k/\(∃ s:Nat,sv=.int .u64 (s:Int)/\Hid (s=KT k))) (fun _ iv=>CC.length-(intOf iv).toNat)
  case atStart=>exact⟨0,QQ _,rfl,⟨0,rfl,U1.out.symm⟩⟩
  case round=>
   obtain⟨k,hk,rfl,⟨s,rfl,hs⟩⟩:=hrel;by_cases hlt:k<CC.length
   ·obtain⟨xb',xo,e,J5⟩:=au.get HXI.out hlt
    cases e
    have hck:=J5 k hlt;obtain⟨n,kd,hn,hnl,hcn,hkd,hkl⟩:=HXC.out k hlt;have HT:Hid _:=UZ.out k hlt;have hsl:s<=1000000:=by rw[hs.out]; exact U0.out k
    obtain⟨yb,yo,YF,_,y1⟩:=(show jd w4 f.ca CS from anh.out).2 n hnl;rw[YF] at ang;rw[hn,QE] at hck;rw[hcn] at y1;rw[<- hs.out,<- hkd] at HT;clear J5 YF hcn hs hkd hn;generalize KN (CC.getD k 0)=kk at *;have hmx:max (s:Int) (kd:Int)=((max s kd:Nat):Int):=by omega
    have hif:(if (s:Int)<(kd:Int) then (kd:Int) else (s:Int))=((max s kd:Nat):Int):=by split <;> omega
    have aut:(if (kd:Int)<(s:Int) then (s:Int) else (kd:Int))=((max s kd:Nat):Int):=by split <;> omega
    go_wp2;go_round
    case rel=>exact⟨k+1,by omega,by go_num,⟨max s kd,rfl,HT.out.symm⟩⟩
    case measure=>simp[intOf]; omega
   ·obtain rfl:k=CC.length:=by omega
    have HV2:Hid (s=R):=by show _=_; rw[hs.out,HV.out]
    clear hs HV;go_wp2;go_ret;exact⟨Qe (by rw[HV2.out]),HC4.out⟩
