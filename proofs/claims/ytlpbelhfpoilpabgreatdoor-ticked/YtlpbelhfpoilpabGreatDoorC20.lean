import Derived.Test.YtlpbelhfpoilpabGreatDoorC01
import Derived.Test.YtlpbelhfpoilpabGreatDoorC07
import Derived.Test.YtlpbelhfpoilpabGreatDoorC19
set_option linter.all false
set_option maxRecDepth 100000
set_option maxHeartbeats 16000000
namespace Go.Scout
open Go.RowKit
def PtrTo (T:TypeId) (F:Nat->Prop) (w:World) (pv:Value) (o:Option TrD):Prop:=(o=none/\pv=.pointer none)∨∃ t a,o=some t/\pv=.pointer (some (aD a 0))/\TreeF T F w a t
end Go.Scout
namespace Go.Proofs.YtlpbelhfpoilpabGreatDoor
open Go.RowKit Go.Scout Go.Shelf
theorem sortedBy_any {F:Nat->Prop} {w:World} {gb:Nat} {A:Nat->Nat} {os:List IntsV} {g:List PlaceD} (h:GrpAt 95 141 F w gb A os g) (hl:g.length<=20) (gc:Nat) (col:Int) :
  Calls Tryz.prog 134 #[.slice (some (aD gb 0)) g.length gc,.int .i64 col] w fun e w'=>∃ pv,e=.returned pv/\PtrTo 95 F w' pv (mateN g col)/\Below w.heap.size w w':=by
 have hPI:=pieces_any h hl gc;obtain⟨PN,hPN⟩:∃ P,P=piecesN g:=⟨_,rfl⟩
 have HTR:Hid (∀ k,k<PN.length->TreeF 95 F w ((PN.map fun x=>A x.1).getD k 0) (PN.getD k (0,trz)).2):=fun k hk=>by
  have e1:(PN.map fun x=>A x.1).getD k 0=A (PN[k]).1:=by rw[List.getD_eq_getElem?_getD,List.getElem?_map,List.getElem?_eq_getElem hk]; rfl
  have e2:PN.getD k (0,trz)=PN[k]:=by rw[List.getD_eq_getElem?_getD,List.getElem?_eq_getElem hk]; rfl
  rw[e1,e2];have hm:PN[k]∈piecesN g:=by rw[<- hPN]; exact List.getElem_mem hk
  rcases pieces_in g [] _ hm with h0 | ⟨p,hp,e⟩
  ·cases h0
  ·exact h.tree p hp _ e
 have HST:Hid (∀ k,k<PN.length->(PN.take (k+1)).foldl (mateS col) none=mateS col ((PN.take k).foldl (mateS col) none) (PN.getD k (0,trz))):=fun k hk=>foldl_takeR _ _ PN (0,trz) hk
 have HEN:Hid ((PN.take PN.length).foldl (mateS col) none=mateN g col):=by show _=_; rw[List.take_length,hPN]; rfl
 have HPL:Hid (PN.length<=20):=by
  show _<=_
  rw[hPN];have:=piecesN_len g g.length;rw[List.take_length] at this;omega
 have HLM:Hid ((PN.map fun x=>A x.1).length=PN.length):=List.length_map _;rw[<- hPN] at hPI;clear h hPN;generalize mateN g col=R at *;obtain⟨MT,hMT⟩:∃ M:Nat->Option TrD,M=fun k=>(PN.take k).foldl (mateS col) none:=⟨_,rfl⟩
 obtain⟨BD,hBD⟩:∃ M:Nat->TrD,M=fun k=>(PN.getD k (0,trz)).2:=⟨_,rfl⟩
 have HTR2:Hid (∀ k,k<PN.length->TreeF 95 F w ((PN.map fun x=>A x.1).getD k 0) (BD k)):=by rw[hBD]; exact HTR.out
 have HST2:Hid (∀ k,k<PN.length->MT (k+1)=if (startsB (BD k).d.order [col]&&(match MT k with | none=>true | some y=>decide ((BD k).d.cost<y.d.cost)))=true then some (BD k) else MT k):=fun k hk=>by
  have:=HST.out k hk;rw[hMT,hBD];exact this
 have HEN2:Hid (MT PN.length=R):=by rw[hMT]; exact HEN.out
 have HM0:Hid (MT 0=none):=by rw[hMT]; rfl
 clear hMT hBD HTR HST HEN;generalize (PN.map fun x=>A x.1)=xs at *;generalize PN.length=pl at *;clear PN;go_enter Tryz.func134,Tryz.ntmps134;go_wp2_with fail;refine hPI.mono ?_;rintro e w1 ⟨v1,rfl,ho1,hb1⟩;clear hPI;have hpl:=HPL.out;obtain⟨xa,xc,rfl,hpt,-⟩:=ptrs_own ho1 (by rw[HLM.out]; omega);rw[HLM.out];have HPT:Hid (PtrsAt w1 xa xs):=hpt;have HB1:Hid (Below w.heap.size w w1):=hb1;clear ho1 hpt hb1;go_wp2;go_loopw [5,11] (fun pv iv wr=>∃ k:Nat,k<=pl/\iv=.int .i64 (k:Int)/\Hid (PtrTo 95 F w pv (MT k))/\Hid (Below w1.heap.size w1 wr)) (fun _ iv _=>pl-(intOf iv).toNat)
 case atStart=>exact⟨0,Nat.zero_le _,rfl,.inl ⟨HM0.out,rfl⟩,Below.refl _ _⟩
 case round=>
  obtain⟨k,hk,rfl,HP,HB⟩:=hrel;have hbw:Below w.heap.size w wr:=HB1.out.trans (HB.out.mono HB1.out.size);by_cases hlt:k<pl
  ·obtain⟨bb,boff,rfl,hbc⟩:=PtrsAt.get (HPT.out.below HB.out) (i:=k) (by rw[HLM.out]; exact hlt);have hck:=hbc k (by rw[HLM.out]; exact hlt);have HTk:=HTR2.out k hlt;obtain⟨p,hP,hpd⟩:=(HTk.below hbw).partIn;have HSk:=HST2.out k hlt;obtain⟨x,hx⟩:∃ x,x=xs.getD k 0:=⟨_,rfl⟩
   rw[<- hx] at hck hP HTk;have HX:Hid (TreeF 95 F w x (BD k)):=HTk;have eo:p.order.xs=(BD k).d.order:=congrArg PartD.order hpd;have ec:p.cost=(BD k).d.cost:=congrArg PartD.cost hpd;rw[<- eo,<- ec] at HSk;have HBE:Hid (∀ y c,Below wr.heap.size wr y->y.cell? (aD c 0)=some (.int .i64 col)->Calls Tryz.prog 135 #[.slice p.order.ad p.order.xs.length p.order.cap,.slice (some (aD c 0)) 1 1] y fun e w'=>e=.returned (.bool (startsB p.order.xs [col]))/\Below y.heap.size y w'):=fun y c hy hc=>
    begins_any p.order.ad (some (aD c 0)) p.order.cap 1 p.order.xs [col] y (IntsAt.below hy hP.ok.order) ⟨by simp,fun i hi=>⟨c,0,rfl,by
     have:i=0:=by simpa using hi
     subst this;exact hc⟩⟩ hP.ok.cap
   have c3:wr.cell? (aD x 3)=some (.slice p.order.ad p.order.xs.length p.order.cap):=hP.c3;have c5:wr.cell? (aD x 5)=some (.int .u64 (p.cost:Int)):=hP.c5;generalize p.order.xs.length=pol at *;generalize p.order.ad=poa at *;generalize p.order.cap=poc at *;generalize startsB p.order.xs [col]=SB at *;generalize p.cost=cx at *;have HS:Hid _:=HSk;have HBW:Hid (Below w.heap.size w wr):=hbw;clear hbc hx hP hpd HTk eo ec HSk hbw p;obtain⟨wq,hwq⟩:∃ x,x=wr:=⟨_,rfl⟩
   subst hwq
   cases SB with
   | false =>
    have HN:Hid (MT (k+1)=MT k):=HS.out;rw[<- HN.out] at HP;rcases HP.out with⟨-,rfl⟩ | ⟨t0,r,-,rfl,-⟩
    ·go_wp2_with fail;refine wp_region_held_drew (S:=fun x=>Below wq.heap.size wq x) (by kernel_rfl) ((Below.refl _ _).drew) (fun hS=>?_);refine wT 0 (.pointer (some (aD x 0))) hS (fun x hx=>?_) ?_
     ·go_simp
     refine wT 1 (.pointer (some (aD x 0))) hS (fun x hx=>?_) ?_
     ·go_simp
     refine wT 2 (.pointer (some (aD x 0))) hS (fun x hx=>?_) ?_
     ·go_simp
     refine wT 3 (.pointer (some (aD x 3))) hS (fun x hx=>?_) ?_
     ·go_simp
     refine wT 4 (.slice poa pol poc) hS (fun x hx=>?_) ?_
     ·have e0:=cB hx c3;go_simp
     refine wT 5 (.int .i64 col) hS (fun x hx=>?_) ?_
     ·go_simp
     refine wR 6 fun K hK=>?_
     go_simp;refine hK.out _ _ (hS.trans (bQ2 _ _ |>.mono hS.size)) (fun hS=>?_);clear hK K;refine wR 7 fun K hK=>?_
     go_simp;refine Calls.mono (HBE.out _ _ hS (by simp)) ?_;rintro e w2 ⟨rfl,hb⟩;refine hK.out _ _ (hS.trans (hb.mono hS.size)) (fun hS=>?_);clear hK K;refine wT 8 (.bool false) hS (fun x hx=>?_) ?_
     ·go_simp
     simp only[Act.put,List.getElem_toArray,List.getElem_cons_succ,List.getElem_cons_zero,List.setIfInBounds_toArray,List.set_cons_succ,List.set_cons_zero];refine wU 9 hS ?_;refine wU 10 hS ?_;refine wU 11 hS ?_;refine wU 12 hS ?_;refine wU 13 hS ?_;refine wU 14 hS ?_;refine wU 15 hS ?_;refine wU 16 hS ?_;refine wU 17 hS ?_;refine wU 18 hS ?_;refine wU 19 hS ?_;refine wU 20 hS ?_;refine wU 21 hS ?_;refine wU 22 hS ?_;refine wU 23 hS ?_;refine wG 24 (.bool false) hS (fun x hx=>?_) ?_
     ·go_simp
     refine wpAnyH_done (by kernel_rfl) ?_ _
     try simp only[Act.put,List.getElem_toArray,List.getElem_cons_succ,List.getElem_cons_zero,List.setIfInBounds_toArray,List.set_cons_succ,List.set_cons_zero]
     try simp only[Act.put,List.getElem_toArray,List.getElem_cons_succ,List.getElem_cons_zero,List.setIfInBounds_toArray,List.set_cons_succ,List.set_cons_zero]
     have HB2:Hid (Below w1.heap.size w1 w2):=HB.out.trans (hS.mono HB.out.size);clear hS;clear c3 c5 hck HBE
     try clear r5
     go_wp2;go_roundw
     case rel=>exact⟨k+1,by omega,by go_num,HP.out,HB2.out⟩
     case measure=>simp[intOf]; omega
    ·go_wp2_with fail;refine wp_region_held_drew (S:=fun x=>Below wq.heap.size wq x) (by kernel_rfl) ((Below.refl _ _).drew) (fun hS=>?_);refine wT 0 (.pointer (some (aD x 0))) hS (fun x hx=>?_) ?_
     ·go_simp
     refine wT 1 (.pointer (some (aD x 0))) hS (fun x hx=>?_) ?_
     ·go_simp
     refine wT 2 (.pointer (some (aD x 0))) hS (fun x hx=>?_) ?_
     ·go_simp
     refine wT 3 (.pointer (some (aD x 3))) hS (fun x hx=>?_) ?_
     ·go_simp
     refine wT 4 (.slice poa pol poc) hS (fun x hx=>?_) ?_
     ·have e0:=cB hx c3;go_simp
     refine wT 5 (.int .i64 col) hS (fun x hx=>?_) ?_
     ·go_simp
     refine wR 6 fun K hK=>?_
     go_simp;refine hK.out _ _ (hS.trans (bQ2 _ _ |>.mono hS.size)) (fun hS=>?_);clear hK K;refine wR 7 fun K hK=>?_
     go_simp;refine Calls.mono (HBE.out _ _ hS (by simp)) ?_;rintro e w2 ⟨rfl,hb⟩;refine hK.out _ _ (hS.trans (hb.mono hS.size)) (fun hS=>?_);clear hK K;refine wT 8 (.bool false) hS (fun x hx=>?_) ?_
     ·go_simp
     simp only[Act.put,List.getElem_toArray,List.getElem_cons_succ,List.getElem_cons_zero,List.setIfInBounds_toArray,List.set_cons_succ,List.set_cons_zero];refine wU 9 hS ?_;refine wU 10 hS ?_;refine wU 11 hS ?_;refine wU 12 hS ?_;refine wU 13 hS ?_;refine wU 14 hS ?_;refine wU 15 hS ?_;refine wU 16 hS ?_;refine wU 17 hS ?_;refine wU 18 hS ?_;refine wU 19 hS ?_;refine wU 20 hS ?_;refine wU 21 hS ?_;refine wU 22 hS ?_;refine wU 23 hS ?_;refine wG 24 (.bool false) hS (fun x hx=>?_) ?_
     ·go_simp
     refine wpAnyH_done (by kernel_rfl) ?_ _
     try simp only[Act.put,List.getElem_toArray,List.getElem_cons_succ,List.getElem_cons_zero,List.setIfInBounds_toArray,List.set_cons_succ,List.set_cons_zero]
     try simp only[Act.put,List.getElem_toArray,List.getElem_cons_succ,List.getElem_cons_zero,List.setIfInBounds_toArray,List.set_cons_succ,List.set_cons_zero]
     have HB2:Hid (Below w1.heap.size w1 w2):=HB.out.trans (hS.mono HB.out.size);clear hS;clear c3 c5 hck HBE
     try clear r5
     go_wp2;go_roundw
     case rel=>exact⟨k+1,by omega,by go_num,HP.out,HB2.out⟩
     case measure=>simp[intOf]; omega
   | true =>
    rcases HP.out with⟨hm,rfl⟩ | ⟨t0,r,hm,rfl,hr⟩
    ·have HN:Hid (MT (k+1)=some (BD k)):=by
      have:=HS.out;rw[hm] at this;exact this
     have HP2:Hid (PtrTo 95 F w (.pointer (some (aD x 0))) (MT (k+1))):=.inr ⟨BD k,x,HN.out,rfl,HX.out⟩;clear hm HS HN HP;go_wp2_with fail;refine wp_region_held_drew (S:=fun x=>Below wq.heap.size wq x) (by kernel_rfl) ((Below.refl _ _).drew) (fun hS=>?_);refine wT 0 (.pointer (some (aD x 0))) hS (fun x hx=>?_) ?_
     ·go_simp
     refine wT 1 (.pointer (some (aD x 0))) hS (fun x hx=>?_) ?_
     ·go_simp
     refine wT 2 (.pointer (some (aD x 0))) hS (fun x hx=>?_) ?_
     ·go_simp
     refine wT 3 (.pointer (some (aD x 3))) hS (fun x hx=>?_) ?_
     ·go_simp
     refine wT 4 (.slice poa pol poc) hS (fun x hx=>?_) ?_
     ·have e0:=cB hx c3;go_simp
     refine wT 5 (.int .i64 col) hS (fun x hx=>?_) ?_
     ·go_simp
     refine wR 6 fun K hK=>?_
     go_simp;refine hK.out _ _ (hS.trans (bQ2 _ _ |>.mono hS.size)) (fun hS=>?_);clear hK K;refine wR 7 fun K hK=>?_
     go_simp;refine Calls.mono (HBE.out _ _ hS (by simp)) ?_;rintro e w2 ⟨rfl,hb⟩;refine hK.out _ _ (hS.trans (hb.mono hS.size)) (fun hS=>?_);clear hK K;refine wT 8 (.bool true) hS (fun x hx=>?_) ?_
     ·go_simp
     simp only[Act.put,List.getElem_toArray,List.getElem_cons_succ,List.getElem_cons_zero,List.setIfInBounds_toArray,List.set_cons_succ,List.set_cons_zero];refine wG 9 (.pointer none) hS (fun x hx=>?_) ?_
     ·go_simp
     refine wG 10 (.bool true) hS (fun x hx=>?_) ?_
     ·go_simp
     refine wG 11 (.bool true) hS (fun x hx=>?_) ?_
     ·go_simp
     simp only[Act.put,List.getElem_toArray,List.getElem_cons_succ,List.getElem_cons_zero,List.setIfInBounds_toArray,List.set_cons_succ,List.set_cons_zero];refine wU 12 hS ?_;refine wU 13 hS ?_;refine wU 14 hS ?_;refine wU 15 hS ?_;refine wU 16 hS ?_;refine wU 17 hS ?_;refine wU 18 hS ?_;refine wU 19 hS ?_;refine wU 20 hS ?_;refine wU 21 hS ?_;refine wU 22 hS ?_;refine wG 23 (.bool true) hS (fun x hx=>?_) ?_
     ·go_simp
     refine wG 24 (.bool true) hS (fun x hx=>?_) ?_
     ·go_simp
     refine wpAnyH_done (by kernel_rfl) ?_ _
     try simp only[Act.put,List.getElem_toArray,List.getElem_cons_succ,List.getElem_cons_zero,List.setIfInBounds_toArray,List.set_cons_succ,List.set_cons_zero]
     try simp only[Act.put,List.getElem_toArray,List.getElem_cons_succ,List.getElem_cons_zero,List.setIfInBounds_toArray,List.set_cons_succ,List.set_cons_zero]
     have HB2:Hid (Below w1.heap.size w1 w2):=HB.out.trans (hS.mono HB.out.size);clear hS;clear c3 c5 hck HBE
     try clear r5
     go_wp2;go_roundw
     case rel=>exact⟨k+1,by omega,by go_num,HP2.out,HB2.out⟩
     case measure=>simp[intOf]; omega
    ·obtain⟨pr,hPr,hrd⟩:=(hr.below HBW.out).partIn;have er:pr.cost=t0.d.cost:=congrArg PartD.cost hrd;have HN:Hid (MT (k+1)=if cx<pr.cost then some (BD k) else MT k):=by
      have:=HS.out;rw[hm] at this;rw[hm,er];simp only[Bool.true_and,decide_eq_true_eq] at this;exact this
     have r5:wq.cell? (aD r 5)=some (.int .u64 (pr.cost:Int)):=hPr.c5;generalize pr.cost=cr at *;clear hPr hrd er hm HS hr pr;by_cases hc:cx<cr
     ·have HC:Hid (cx<cr):=hc;have HP2:Hid (PtrTo 95 F w (.pointer (some (aD x 0))) (MT (k+1))):=.inr ⟨BD k,x,by rw[HN.out,if_pos hc],rfl,HX.out⟩;clear hc HN HP;go_wp2_with fail;refine wp_region_held_drew (S:=fun x=>Below wq.heap.size wq x) (by kernel_rfl) ((Below.refl _ _).drew) (fun hS=>?_);refine wT 0 (.pointer (some (aD x 0))) hS (fun x hx=>?_) ?_
      ·go_simp
      refine wT 1 (.pointer (some (aD x 0))) hS (fun x hx=>?_) ?_
      ·go_simp
      refine wT 2 (.pointer (some (aD x 0))) hS (fun x hx=>?_) ?_
      ·go_simp
      refine wT 3 (.pointer (some (aD x 3))) hS (fun x hx=>?_) ?_
      ·go_simp
      refine wT 4 (.slice poa pol poc) hS (fun x hx=>?_) ?_
      ·have e0:=cB hx c3;go_simp
      refine wT 5 (.int .i64 col) hS (fun x hx=>?_) ?_
      ·go_simp
      refine wR 6 fun K hK=>?_
      go_simp;refine hK.out _ _ (hS.trans (bQ2 _ _ |>.mono hS.size)) (fun hS=>?_);clear hK K;refine wR 7 fun K hK=>?_
      go_simp;refine Calls.mono (HBE.out _ _ hS (by simp)) ?_;rintro e w2 ⟨rfl,hb⟩;refine hK.out _ _ (hS.trans (hb.mono hS.size)) (fun hS=>?_);clear hK K;refine wT 8 (.bool true) hS (fun x hx=>?_) ?_
      ·go_simp
      simp only[Act.put,List.getElem_toArray,List.getElem_cons_succ,List.getElem_cons_zero,List.setIfInBounds_toArray,List.set_cons_succ,List.set_cons_zero];refine wG 9 (.pointer (some (aD r 0))) hS (fun x hx=>?_) ?_
      ·go_simp
      refine wG 10 (.bool false) hS (fun x hx=>?_) ?_
      ·go_simp
      refine wG 11 (.bool false) hS (fun x hx=>?_) ?_
      ·go_simp
      simp only[Act.put,List.getElem_toArray,List.getElem_cons_succ,List.getElem_cons_zero,List.setIfInBounds_toArray,List.set_cons_succ,List.set_cons_zero];refine wG 12 (.pointer (some (aD x 0))) hS (fun x hx=>?_) ?_
      ·go_simp
      refine wG 13 (.pointer (some (aD x 0))) hS (fun x hx=>?_) ?_
      ·go_simp
      refine wG 14 (.pointer (some (aD x 0))) hS (fun x hx=>?_) ?_
      ·go_simp
      refine wG 15 (.pointer (some (aD x 5))) hS (fun x hx=>?_) ?_
      ·go_simp
      refine wG 16 (.int .u64 (cx:Int)) hS (fun x hx=>?_) ?_
      ·have e0:=cB hx c5;go_simp
      refine wG 17 (.pointer (some (aD r 0))) hS (fun x hx=>?_) ?_
      ·go_simp
      refine wG 18 (.pointer (some (aD r 0))) hS (fun x hx=>?_) ?_
      ·go_simp
      refine wG 19 (.pointer (some (aD r 0))) hS (fun x hx=>?_) ?_
      ·go_simp
      refine wG 20 (.pointer (some (aD r 5))) hS (fun x hx=>?_) ?_
      ·go_simp
      refine wG 21 (.int .u64 (cr:Int)) hS (fun x hx=>?_) ?_
      ·have e0:=cB hx r5;go_simp
      refine wG 22 (.bool true) hS (fun x hx=>?_) ?_
      ·go_simp;exact HC.out
      refine wG 23 (.bool true) hS (fun x hx=>?_) ?_
      ·go_simp
      refine wG 24 (.bool true) hS (fun x hx=>?_) ?_
      ·go_simp
      refine wpAnyH_done (by kernel_rfl) ?_ _
      try simp only[Act.put,List.getElem_toArray,List.getElem_cons_succ,List.getElem_cons_zero,List.setIfInBounds_toArray,List.set_cons_succ,List.set_cons_zero]
      try simp only[Act.put,List.getElem_toArray,List.getElem_cons_succ,List.getElem_cons_zero,List.setIfInBounds_toArray,List.set_cons_succ,List.set_cons_zero]
      have HB2:Hid (Below w1.heap.size w1 w2):=HB.out.trans (hS.mono HB.out.size);clear hS;clear c3 c5 hck HBE
      try clear r5
      go_wp2;go_roundw
      case rel=>exact⟨k+1,by omega,by go_num,HP2.out,HB2.out⟩
      case measure=>simp[intOf]; omega
     ·have HC:Hid (cr<=cx):=Nat.le_of_not_lt hc;have HP2:Hid (PtrTo 95 F w (.pointer (some (aD r 0))) (MT (k+1))):=by
       show PtrTo _ _ _ _ _
       rw[HN.out,if_neg hc];exact HP.out
      clear hc HN HP;go_wp2_with fail;refine wp_region_held_drew (S:=fun x=>Below wq.heap.size wq x) (by kernel_rfl) ((Below.refl _ _).drew) (fun hS=>?_);refine wT 0 (.pointer (some (aD x 0))) hS (fun x hx=>?_) ?_
      ·go_simp
      refine wT 1 (.pointer (some (aD x 0))) hS (fun x hx=>?_) ?_
      ·go_simp
      refine wT 2 (.pointer (some (aD x 0))) hS (fun x hx=>?_) ?_
      ·go_simp
      refine wT 3 (.pointer (some (aD x 3))) hS (fun x hx=>?_) ?_
      ·go_simp
      refine wT 4 (.slice poa pol poc) hS (fun x hx=>?_) ?_
      ·have e0:=cB hx c3;go_simp
      refine wT 5 (.int .i64 col) hS (fun x hx=>?_) ?_
      ·go_simp
      refine wR 6 fun K hK=>?_
      go_simp;refine hK.out _ _ (hS.trans (bQ2 _ _ |>.mono hS.size)) (fun hS=>?_);clear hK K;refine wR 7 fun K hK=>?_
      go_simp;refine Calls.mono (HBE.out _ _ hS (by simp)) ?_;rintro e w2 ⟨rfl,hb⟩;refine hK.out _ _ (hS.trans (hb.mono hS.size)) (fun hS=>?_);clear hK K;refine wT 8 (.bool true) hS (fun x hx=>?_) ?_
      ·go_simp
      simp only[Act.put,List.getElem_toArray,List.getElem_cons_succ,List.getElem_cons_zero,List.setIfInBounds_toArray,List.set_cons_succ,List.set_cons_zero];refine wG 9 (.pointer (some (aD r 0))) hS (fun x hx=>?_) ?_
      ·go_simp
      refine wG 10 (.bool false) hS (fun x hx=>?_) ?_
      ·go_simp
      refine wG 11 (.bool false) hS (fun x hx=>?_) ?_
      ·go_simp
      simp only[Act.put,List.getElem_toArray,List.getElem_cons_succ,List.getElem_cons_zero,List.setIfInBounds_toArray,List.set_cons_succ,List.set_cons_zero];refine wG 12 (.pointer (some (aD x 0))) hS (fun x hx=>?_) ?_
      ·go_simp
      refine wG 13 (.pointer (some (aD x 0))) hS (fun x hx=>?_) ?_
      ·go_simp
      refine wG 14 (.pointer (some (aD x 0))) hS (fun x hx=>?_) ?_
      ·go_simp
      refine wG 15 (.pointer (some (aD x 5))) hS (fun x hx=>?_) ?_
      ·go_simp
      refine wG 16 (.int .u64 (cx:Int)) hS (fun x hx=>?_) ?_
      ·have e0:=cB hx c5;go_simp
      refine wG 17 (.pointer (some (aD r 0))) hS (fun x hx=>?_) ?_
      ·go_simp
      refine wG 18 (.pointer (some (aD r 0))) hS (fun x hx=>?_) ?_
      ·go_simp
      refine wG 19 (.pointer (some (aD r 0))) hS (fun x hx=>?_) ?_
      ·go_simp
      refine wG 20 (.pointer (some (aD r 5))) hS (fun x hx=>?_) ?_
      ·go_simp
      refine wG 21 (.int .u64 (cr:Int)) hS (fun x hx=>?_) ?_
      ·have e0:=cB hx r5;go_simp
      refine wG 22 (.bool false) hS (fun x hx=>?_) ?_
      ·go_simp;exact HC.out
      refine wG 23 (.bool false) hS (fun x hx=>?_) ?_
      ·go_simp
      refine wG 24 (.bool false) hS (fun x hx=>?_) ?_
      ·go_simp
      refine wpAnyH_done (by kernel_rfl) ?_ _
      try simp only[Act.put,List.getElem_toArray,List.getElem_cons_succ,List.getElem_cons_zero,List.setIfInBounds_toArray,List.set_cons_succ,List.set_cons_zero]
      try simp only[Act.put,List.getElem_toArray,List.getElem_cons_succ,List.getElem_cons_zero,List.setIfInBounds_toArray,List.set_cons_succ,List.set_cons_zero]
      have HB2:Hid (Below w1.heap.size w1 w2):=HB.out.trans (hS.mono HB.out.size);clear hS;clear c3 c5 hck HBE
      try clear r5
      go_wp2;go_roundw
      case rel=>exact⟨k+1,by omega,by go_num,HP2.out,HB2.out⟩
      case measure=>simp[intOf]; omega
  ·have hkp:pl=k:=by omega
   rw[<- hkp,HEN2.out] at HP;have HF:Hid (Below w.heap.size w wr):=hbw;clear hkp hbw;rcases HP.out with⟨hm,rfl⟩ | ⟨t0,r,hm,rfl,hr⟩
   ·have HM:Hid _:=hm;clear hm;go_wp2;go_ret;exact⟨_,rfl,.inl ⟨HM.out,rfl⟩,HF.out⟩
   ·have HM:Hid _:=hm;have HR:Hid (TreeF 95 F w r t0):=hr;clear hm hr;go_wp2;go_ret;exact⟨_,rfl,.inr ⟨t0,r,HM.out,rfl,HR.out.below HF.out⟩,HF.out⟩
end Go.Proofs.YtlpbelhfpoilpabGreatDoor
