import Derived.Test.YtbcgekghfgcakaaGreatDoorF20
set_option linter.all false
set_option maxRecDepth 100000
set_option maxHeartbeats 16000000
namespace Go.Proofs.Zz
open Go.RowKit Go.Shelf
def PtrTo (T:TypeId) (F:Nat->Prop) (w:World) (pv:Value) (o:Option aW):Prop:=(o=none/\pv=.pointer none)∨∃ t a,o=some t/\pv=.pointer (some (aD a 0))/\aC T F w a t
theorem Fy {F:Nat->Prop} {w:World} {gb:Nat} {A:Nat->Nat} {os:List ah} {g:List ai} (h:aX 120 195 F w gb A os g) (hl:g.length<=20) (gc:Nat) (fZ:Int) :
  Calls Tryz.prog 228 #[.slice (some (aD gb 0)) g.length gc,.int .i64 fZ] w fun e w'=>∃ pv,e=.returned pv/\PtrTo 120 F w' pv (qF g fZ)/\Below w.heap.size w w':=by
 have hPI:=Ba h hl gc;obtain⟨PN,VX⟩:∃ P,P=bX g:=⟨_,rfl⟩
 have VY:Hid (∀ k,k<PN.length->aC 120 F w ((PN.map fun x=>A x.1).getD k 0) (PN.getD k (0,ll)).2):=fun k hk=>by
  have e1:(PN.map fun x=>A x.1).getD k 0=A (PN[k]).1:=by rw[Xq,QW,ZG hk]; rfl
  have e2:PN.getD k (0,ll)=PN[k]:=by rw[Xq,ZG hk]; rfl
  rw[e1,e2];have hm:PN[k]∈bX g:=by rw[<- VX]; exact Qj hk
  rcases lN g [] _ hm with h0 | ⟨p,hp,e⟩
  ·cases h0
  ·exact h.tree p hp _ e
 have HST:Hid (∀ k,k<PN.length->(PN.take (k+1)).foldl (qE fZ) none=qE fZ ((PN.take k).foldl (qE fZ) none) (PN.getD k (0,ll))):=fun k hk=>gy _ _ PN (0,ll) hk
 have ql:Hid ((PN.take PN.length).foldl (qE fZ) none=qF g fZ):=by show _=_; rw[Qt,VX]; rfl
 have su:Hid (PN.length<=20):=by
  show _<=_
  rw[VX];have:=rA g g.length;rw[Qt] at this;omega
 have Y0:Hid ((PN.map fun x=>A x.1).length=PN.length):=QU _;rw[<- VX] at hPI;clear h VX;generalize qF g fZ=R at *;obtain⟨MT,hMT⟩:∃ M:Nat->Option aW,M=fun k=>(PN.take k).foldl (qE fZ) none:=⟨_,rfl⟩
 obtain⟨BD,Mj⟩:∃ M:Nat->aW,M=fun k=>(PN.getD k (0,ll)).2:=⟨_,rfl⟩
 have aou:Hid (∀ k,k<PN.length->aC 120 F w ((PN.map fun x=>A x.1).getD k 0) (BD k)):=by rw[Mj]; exact VY.out
 have MG:Hid (∀ k,k<PN.length->MT (k+1)=if (bO (BD k).d.order [fZ]&&(match MT k with | none=>true | some y=>decide ((BD k).d.cost<y.d.cost)))=true then some (BD k) else MT k):=fun k hk=>by
  have:=HST.out k hk;rw[hMT,Mj];exact this
 have aov:Hid (MT PN.length=R):=by rw[hMT]; exact ql.out
 have HM0:Hid (MT 0=none):=by rw[hMT]; rfl
 clear hMT Mj VY HST ql;generalize (PN.map fun x=>A x.1)=xs at *;generalize PN.length=pl at *;clear PN;go_enter Tryz.func228,Tryz.ntmps228;go_wp2_with fail;refine hPI.mono ?_;rintro e w1 ⟨v1,rfl,ho1,hb1⟩;clear hPI;have hpl:=su.out;obtain⟨xa,xc,rfl,hpt,-⟩:=kK ho1 (by rw[Y0.out]; omega);rw[Y0.out];have Oo:=Zh hpt;have HB1:=Zh hb1;clear ho1 hpt hb1;go_wp2;go_loopw [5,11] (fun pv iv wr=>∃ k:Nat,k<=pl/\iv=.int .i64 (k:Int)/\Hid (PtrTo 120 F w pv (MT k))/\Hid (Below w1.heap.size w1 wr)) (fun _ iv _=>pl-(intOf iv).toNat)
 case atStart=>exact⟨0,QQ _,rfl,.inl ⟨HM0.out,rfl⟩,Qp _ _⟩
 case round=>
  obtain⟨k,hk,rfl,HP,HB⟩:=hrel;have hbw:=HB1.out.trans (HB.out.mono HB1.out.size);by_cases hlt:k<pl
  ·obtain⟨bb,LW,rfl,hbc⟩:=cK.get (Oo.out.below HB.out) (i:=k) (by rw[Y0.out]; exact hlt);have hck:=hbc k (by rw[Y0.out]; exact hlt);have HTk:=aou.out k hlt;obtain⟨p,hP,yU⟩:=(HTk.below hbw).jP;have ES:=MG.out k hlt;obtain⟨x,hx⟩:∃ x,x=xs.getD k 0:=⟨_,rfl⟩
   rw[<- hx] at hck hP HTk;have HX:=Zh HTk;have eo:p.order.xs=(BD k).d.order:=congrArg iG.order yU;have ec:p.cost=(BD k).d.cost:=congrArg iG.cost yU;rw[<- eo,<- ec] at ES;have nQ:Hid (∀ y c,Below wr.heap.size wr y->y.cell? (aD c 0)=some (.int .i64 fZ)->Calls Tryz.prog 229 #[.slice p.order.ad p.order.xs.length p.order.cap,.slice (some (aD c 0)) 1 1] y fun e w'=>e=.returned (.bool (bO p.order.xs [fZ]))/\Below y.heap.size y w'):=fun y c hy hc=>
    lV p.order.ad (some (aD c 0)) p.order.cap 1 p.order.xs [fZ] y (Qo hy hP.ok.order) ⟨by simp,fun i hi=>⟨c,0,rfl,by
     have:i=0:=by simpa using hi
     subst this;exact hc⟩⟩ hP.ok.cap
   have c3:wr.cell? (aD x 3)=some (.slice p.order.ad p.order.xs.length p.order.cap):=hP.c3;have c5:=hP.c5;generalize p.order.xs.length=Ov at *;generalize p.order.ad=Ow at *;generalize p.order.cap=Ox at *;generalize bO p.order.xs [fZ]=SB at *;generalize p.cost=cx at *;have HS:=Zh ES;have jV:=Zh hbw;clear hbc hx hP yU HTk eo ec ES hbw p;obtain⟨wq,hwq⟩:∃ x,x=wr:=⟨_,rfl⟩
   subst hwq
   cases SB with
   | false =>
    have HN:Hid (MT (k+1)=MT k):=HS.out;rw[<- HN.out] at HP;rcases HP.out with⟨-,rfl⟩ | ⟨t0,r,-,rfl,-⟩
    ·go_wp2_with fail;refine wH wq fun hS=>?_
     refine wT 0 (.pointer (some (aD x 0))) hS (fun x hx=>?_) ?_
     ·go_simp
     refine wT 1 (.pointer (some (aD x 0))) hS (fun x hx=>?_) ?_
     ·go_simp
     refine wT 2 (.pointer (some (aD x 0))) hS (fun x hx=>?_) ?_
     ·go_simp
     refine wT 3 (.pointer (some (aD x 3))) hS (fun x hx=>?_) ?_
     ·go_simp
     refine wT 4 (.slice Ow Ov Ox) hS (fun x hx=>?_) ?_
     ·have e0:=cB hx c3;go_simp
     refine wT 5 (.int .i64 fZ) hS (fun x hx=>?_) ?_
     ·go_simp
     refine wR 6 fun K hK=>?_
     go_simp;refine oA hK hS fun hS=>?_
     clear hK K;refine wR 7 fun K hK=>?_
     go_simp;refine Z7 (nQ.out _ _ hS (by simp)) ?_;rintro e w2 ⟨rfl,hb⟩;refine oT hK hS hb fun hS=>?_
     clear hK K;refine wT 8 (.bool false) hS (fun x hx=>?_) ?_
     ·go_simp
     simp only[Act.put,XM,XN,XO,QK,Qb,Qc];refine wU 9 hS ?_;refine wU 10 hS ?_;refine wU 11 hS ?_;refine wU 12 hS ?_;refine wU 13 hS ?_;refine wU 14 hS ?_;refine wU 15 hS ?_;refine wU 16 hS ?_;refine wU 17 hS ?_;refine wU 18 hS ?_;refine wU 19 hS ?_;refine wU 20 hS ?_;refine wU 21 hS ?_;refine wU 22 hS ?_;refine wU 23 hS ?_;refine wG 24 (.bool false) hS (fun x hx=>?_) ?_
     ·go_simp
     refine wD ?_
     try simp only[Act.put,XM,XN,XO,QK,Qb,Qc]
     try simp only[Act.put,XM,XN,XO,QK,Qb,Qc]
     have HB2:=Zh (HB.out.trans (hS.mono HB.out.size));clear hS;clear c3 c5 hck nQ
     try clear r5
     go_wp2;go_roundw
     case rel=>exact⟨k+1,by omega,by go_num,HP.out,HB2.out⟩
     case measure=>simp[intOf]; omega
    ·go_wp2_with fail;refine wH wq fun hS=>?_
     refine wT 0 (.pointer (some (aD x 0))) hS (fun x hx=>?_) ?_
     ·go_simp
     refine wT 1 (.pointer (some (aD x 0))) hS (fun x hx=>?_) ?_
     ·go_simp
     refine wT 2 (.pointer (some (aD x 0))) hS (fun x hx=>?_) ?_
     ·go_simp
     refine wT 3 (.pointer (some (aD x 3))) hS (fun x hx=>?_) ?_
     ·go_simp
     refine wT 4 (.slice Ow Ov Ox) hS (fun x hx=>?_) ?_
     ·have e0:=cB hx c3;go_simp
     refine wT 5 (.int .i64 fZ) hS (fun x hx=>?_) ?_
     ·go_simp
     refine wR 6 fun K hK=>?_
     go_simp;refine oA hK hS fun hS=>?_
     clear hK K;refine wR 7 fun K hK=>?_
     go_simp;refine Z7 (nQ.out _ _ hS (by simp)) ?_;rintro e w2 ⟨rfl,hb⟩;refine oT hK hS hb fun hS=>?_
     clear hK K;refine wT 8 (.bool false) hS (fun x hx=>?_) ?_
     ·go_simp
     simp only[Act.put,XM,XN,XO,QK,Qb,Qc];refine wU 9 hS ?_;refine wU 10 hS ?_;refine wU 11 hS ?_;refine wU 12 hS ?_;refine wU 13 hS ?_;refine wU 14 hS ?_;refine wU 15 hS ?_;refine wU 16 hS ?_;refine wU 17 hS ?_;refine wU 18 hS ?_;refine wU 19 hS ?_;refine wU 20 hS ?_;refine wU 21 hS ?_;refine wU 22 hS ?_;refine wU 23 hS ?_;refine wG 24 (.bool false) hS (fun x hx=>?_) ?_
     ·go_simp
     refine wD ?_
     try simp only[Act.put,XM,XN,XO,QK,Qb,Qc]
     try simp only[Act.put,XM,XN,XO,QK,Qb,Qc]
     have HB2:=Zh (HB.out.trans (hS.mono HB.out.size));clear hS;clear c3 c5 hck nQ
     try clear r5
     go_wp2;go_roundw
     case rel=>exact⟨k+1,by omega,by go_num,HP.out,HB2.out⟩
     case measure=>simp[intOf]; omega
   | true =>
    rcases HP.out with⟨hm,rfl⟩ | ⟨t0,r,hm,rfl,hr⟩
    ·have HN:Hid (MT (k+1)=some (BD k)):=by
      have:=HS.out;rw[hm] at this;exact this
     have HP2:Hid (PtrTo 120 F w (.pointer (some (aD x 0))) (MT (k+1))):=.inr ⟨BD k,x,HN.out,rfl,HX.out⟩;clear hm HS HN HP;go_wp2_with fail;refine wH wq fun hS=>?_
     refine wT 0 (.pointer (some (aD x 0))) hS (fun x hx=>?_) ?_
     ·go_simp
     refine wT 1 (.pointer (some (aD x 0))) hS (fun x hx=>?_) ?_
     ·go_simp
     refine wT 2 (.pointer (some (aD x 0))) hS (fun x hx=>?_) ?_
     ·go_simp
     refine wT 3 (.pointer (some (aD x 3))) hS (fun x hx=>?_) ?_
     ·go_simp
     refine wT 4 (.slice Ow Ov Ox) hS (fun x hx=>?_) ?_
     ·have e0:=cB hx c3;go_simp
     refine wT 5 (.int .i64 fZ) hS (fun x hx=>?_) ?_
     ·go_simp
     refine wR 6 fun K hK=>?_
     go_simp;refine oA hK hS fun hS=>?_
     clear hK K;refine wR 7 fun K hK=>?_
     go_simp;refine Z7 (nQ.out _ _ hS (by simp)) ?_;rintro e w2 ⟨rfl,hb⟩;refine oT hK hS hb fun hS=>?_
     clear hK K;refine wT 8 (.bool true) hS (fun x hx=>?_) ?_
     ·go_simp
     simp only[Act.put,XM,XN,XO,QK,Qb,Qc];refine wG 9 (.pointer none) hS (fun x hx=>?_) ?_
     ·go_simp
     refine wG 10 (.bool true) hS (fun x hx=>?_) ?_
     ·go_simp
     refine wG 11 (.bool true) hS (fun x hx=>?_) ?_
     ·go_simp
     simp only[Act.put,XM,XN,XO,QK,Qb,Qc];refine wU 12 hS ?_;refine wU 13 hS ?_;refine wU 14 hS ?_;refine wU 15 hS ?_;refine wU 16 hS ?_;refine wU 17 hS ?_;refine wU 18 hS ?_;refine wU 19 hS ?_;refine wU 20 hS ?_;refine wU 21 hS ?_;refine wU 22 hS ?_;refine wG 23 (.bool true) hS (fun x hx=>?_) ?_
     ·go_simp
     refine wG 24 (.bool true) hS (fun x hx=>?_) ?_
     ·go_simp
     refine wD ?_
     try simp only[Act.put,XM,XN,XO,QK,Qb,Qc]
     try simp only[Act.put,XM,XN,XO,QK,Qb,Qc]
     have HB2:=Zh (HB.out.trans (hS.mono HB.out.size));clear hS;clear c3 c5 hck nQ
     try clear r5
     go_wp2;go_roundw
     case rel=>exact⟨k+1,by omega,by go_num,HP2.out,HB2.out⟩
     case measure=>simp[intOf]; omega
    ·obtain⟨pr,hPr,hrd⟩:=(hr.below jV.out).jP;have er:pr.cost=t0.d.cost:=congrArg iG.cost hrd;have HN:Hid (MT (k+1)=if cx<pr.cost then some (BD k) else MT k):=by
      have:=HS.out;rw[hm] at this;rw[hm,er];simp only[Qv,Qx] at this;exact this
     have r5:=hPr.c5;generalize pr.cost=cr at *;clear hPr hrd er hm HS hr pr;by_cases hc:cx<cr
     ·have HC:=Zh hc;have HP2:Hid (PtrTo 120 F w (.pointer (some (aD x 0))) (MT (k+1))):=.inr ⟨BD k,x,by rw[HN.out,Qr hc],rfl,HX.out⟩;clear hc HN HP;go_wp2_with fail;refine wH wq fun hS=>?_
      refine wT 0 (.pointer (some (aD x 0))) hS (fun x hx=>?_) ?_
      ·go_simp
      refine wT 1 (.pointer (some (aD x 0))) hS (fun x hx=>?_) ?_
      ·go_simp
      refine wT 2 (.pointer (some (aD x 0))) hS (fun x hx=>?_) ?_
      ·go_simp
      refine wT 3 (.pointer (some (aD x 3))) hS (fun x hx=>?_) ?_
      ·go_simp
      refine wT 4 (.slice Ow Ov Ox) hS (fun x hx=>?_) ?_
      ·have e0:=cB hx c3;go_simp
      refine wT 5 (.int .i64 fZ) hS (fun x hx=>?_) ?_
      ·go_simp
      refine wR 6 fun K hK=>?_
      go_simp;refine oA hK hS fun hS=>?_
      clear hK K;refine wR 7 fun K hK=>?_
      go_simp;refine Z7 (nQ.out _ _ hS (by simp)) ?_;rintro e w2 ⟨rfl,hb⟩;refine oT hK hS hb fun hS=>?_
      clear hK K;refine wT 8 (.bool true) hS (fun x hx=>?_) ?_
      ·go_simp
      simp only[Act.put,XM,XN,XO,QK,Qb,Qc];refine wG 9 (.pointer (some (aD r 0))) hS (fun x hx=>?_) ?_
      ·go_simp
      refine wG 10 (.bool false) hS (fun x hx=>?_) ?_
      ·go_simp
      refine wG 11 (.bool false) hS (fun x hx=>?_) ?_
      ·go_simp
      simp only[Act.put,XM,XN,XO,QK,Qb,Qc];refine wG 12 (.pointer (some (aD x 0))) hS (fun x hx=>?_) ?_
      ·go_simp
      refine wG 13 (.pointer (some (aD x 0))) hS (fun x hx=>?_) ?_
      ·go_simp
      refine wG 14 (.pointer (some (aD x 0))) hS (fun x hx=>?_) ?_
      ·go_simp
      refine wG 15 (.pointer (some (aD x 5))) hS (fun x hx=>?_) ?_
      ·go_simp
      refine wG 16 (.int .u64 (cx:Int)) hS (fun x hx=>?_) ?_
      ·have e0:=cB hx c5;go_simp
      refine wG 17 (.pointer (some (aD r 0))) hS (fun x hx=>?_) ?_
      ·go_simp
      refine wG 18 (.pointer (some (aD r 0))) hS (fun x hx=>?_) ?_
      ·go_simp
      refine wG 19 (.pointer (some (aD r 0))) hS (fun x hx=>?_) ?_
      ·go_simp
      refine wG 20 (.pointer (some (aD r 5))) hS (fun x hx=>?_) ?_
      ·go_simp
      refine wG 21 (.int .u64 (cr:Int)) hS (fun x hx=>?_) ?_
      ·have e0:=cB hx r5;go_simp
      refine wG 22 (.bool true) hS (fun x hx=>?_) ?_
      ·go_simp;exact HC.out
      refine wG 23 (.bool true) hS (fun x hx=>?_) ?_
      ·go_simp
      refine wG 24 (.bool true) hS (fun x hx=>?_) ?_
      ·go_simp
      refine wD ?_
      try simp only[Act.put,XM,XN,XO,QK,Qb,Qc]
      try simp only[Act.put,XM,XN,XO,QK,Qb,Qc]
      have HB2:=Zh (HB.out.trans (hS.mono HB.out.size));clear hS;clear c3 c5 hck nQ
      try clear r5
      go_wp2;go_roundw
      case rel=>exact⟨k+1,by omega,by go_num,HP2.out,HB2.out⟩
      case measure=>simp[intOf]; omega
     ·have HC:=Zh (Nat.le_of_not_lt hc);have HP2:Hid (PtrTo 120 F w (.pointer (some (aD r 0))) (MT (k+1))):=by
       show PtrTo _ _ _ _ _
       rw[HN.out,Qs hc];exact HP.out
      clear hc HN HP;go_wp2_with fail;refine wH wq fun hS=>?_
      refine wT 0 (.pointer (some (aD x 0))) hS (fun x hx=>?_) ?_
      ·go_simp
      refine wT 1 (.pointer (some (aD x 0))) hS (fun x hx=>?_) ?_
      ·go_simp
      refine wT 2 (.pointer (some (aD x 0))) hS (fun x hx=>?_) ?_
      ·go_simp
      refine wT 3 (.pointer (some (aD x 3))) hS (fun x hx=>?_) ?_
      ·go_simp
      refine wT 4 (.slice Ow Ov Ox) hS (fun x hx=>?_) ?_
      ·have e0:=cB hx c3;go_simp
      refine wT 5 (.int .i64 fZ) hS (fun x hx=>?_) ?_
      ·go_simp
      refine wR 6 fun K hK=>?_
      go_simp;refine oA hK hS fun hS=>?_
      clear hK K;refine wR 7 fun K hK=>?_
      go_simp;refine Z7 (nQ.out _ _ hS (by simp)) ?_;rintro e w2 ⟨rfl,hb⟩;refine oT hK hS hb fun hS=>?_
      clear hK K;refine wT 8 (.bool true) hS (fun x hx=>?_) ?_
      ·go_simp
      simp only[Act.put,XM,XN,XO,QK,Qb,Qc];refine wG 9 (.pointer (some (aD r 0))) hS (fun x hx=>?_) ?_
      ·go_simp
      refine wG 10 (.bool false) hS (fun x hx=>?_) ?_
      ·go_simp
      refine wG 11 (.bool false) hS (fun x hx=>?_) ?_
      ·go_simp
      simp only[Act.put,XM,XN,XO,QK,Qb,Qc];refine wG 12 (.pointer (some (aD x 0))) hS (fun x hx=>?_) ?_
      ·go_simp
      refine wG 13 (.pointer (some (aD x 0))) hS (fun x hx=>?_) ?_
      ·go_simp
      refine wG 14 (.pointer (some (aD x 0))) hS (fun x hx=>?_) ?_
      ·go_simp
      refine wG 15 (.pointer (some (aD x 5))) hS (fun x hx=>?_) ?_
      ·go_simp
      refine wG 16 (.int .u64 (cx:Int)) hS (fun x hx=>?_) ?_
      ·have e0:=cB hx c5;go_simp
      refine wG 17 (.pointer (some (aD r 0))) hS (fun x hx=>?_) ?_
      ·go_simp
      refine wG 18 (.pointer (some (aD r 0))) hS (fun x hx=>?_) ?_
      ·go_simp
      refine wG 19 (.pointer (some (aD r 0))) hS (fun x hx=>?_) ?_
      ·go_simp
      refine wG 20 (.pointer (some (aD r 5))) hS (fun x hx=>?_) ?_
      ·go_simp
      refine wG 21 (.int .u64 (cr:Int)) hS (fun x hx=>?_) ?_
      ·have e0:=cB hx r5;go_simp
      refine wG 22 (.bool false) hS (fun x hx=>?_) ?_
      ·go_simp;exact HC.out
      refine wG 23 (.bool false) hS (fun x hx=>?_) ?_
      ·go_simp
      refine wG 24 (.bool false) hS (fun x hx=>?_) ?_
      ·go_simp
      refine wD ?_
      try simp only[Act.put,XM,XN,XO,QK,Qb,Qc]
      try simp only[Act.put,XM,XN,XO,QK,Qb,Qc]
      have HB2:=Zh (HB.out.trans (hS.mono HB.out.size));clear hS;clear c3 c5 hck nQ
      try clear r5
      go_wp2;go_roundw
      case rel=>exact⟨k+1,by omega,by go_num,HP2.out,HB2.out⟩
      case measure=>simp[intOf]; omega
  ·have hkp:pl=k:=by omega
   rw[<- hkp,aov.out] at HP;have HF:=Zh hbw;clear hkp hbw;rcases HP.out with⟨hm,rfl⟩ | ⟨t0,r,hm,rfl,hr⟩
   ·have HM:=Zh hm;clear hm;go_wp2;go_ret;exact⟨_,rfl,.inl ⟨HM.out,rfl⟩,HF.out⟩
   ·have HM:=Zh hm;have HR:=Zh hr;clear hm hr;go_wp2;go_ret;exact⟨_,rfl,.inr ⟨t0,r,HM.out,rfl,HR.out.below HF.out⟩,HF.out⟩
theorem Jk {F:Nat->Prop} {W0 w:World} {f:aB} {ts:List af} {q:ae} (E:Env f ts q W0) (hz:Fz F W0 w) (a b:Nat) (ha:a<2 ^ q.src.xs.length) (hb:b<2 ^ q.src.xs.length) :
  Calls Tryz.prog 226 #[.agg (f.cells ts q),.int .u64 (a:Int),.int .u64 (b:Int)] w fun e w'=>e=.returned (.int .u64 ((gP (aA ts q) a b:Nat):Int))/\Below w.heap.size w w':=by
 obtain⟨v0,v1,v2,v3,v4,v5,v6,v7,v8,v9,v10,v11,v12,dw,-⟩:=Z8 f ts q;have h64:2 ^ q.src.xs.length<=18446744073709551616:=QZ (n:=2) (by omega) E.ok.small;have hw64:∀ s,dh (aA ts q) s<18446744073709551616:=fun s=>Q8 (jy _ _ (aA ts q).length) (QZ (n:=2) (by omega) (show (aA ts q).length<=64 by rw[ZQ]; exact E.ok.lh))
 have hab:=sP ha hb;have HWI:Hid (∀ (x:World) (s:Nat),s<18446744073709551616->Below w.heap.size w x->Calls Tryz.prog 183 #[.agg #[v0,v1,v2,v3,v4,v5,v6,v7,v8,v9,v10,v11,v12],.int .u64 (s:Int)] x fun e w'=>e=.returned (.int .u64 ((dh (aA ts q) s:Nat):Int))/\Below x.heap.size x w'):=fun x s hs hx=>by
  rw[<- dw];exact yA f ts q s x E.ok ((E.at' hz).below hx) hs
 have hR:gP (aA ts q) a b=dh (aA ts q) (a|||b) &&& (18446744073709551615-(dh (aA ts q) a|||dh (aA ts q) b)):=rfl;rw[hR,dw];have HH:Hid (a<18446744073709551616/\b<18446744073709551616/\a|||b<18446744073709551616):=⟨by omega,by omega,by omega⟩
 have h1:=hw64 (a|||b);have h2:=hw64 a;have h3:=hw64 b;have HWA:Hid (∀ x,Below w.heap.size w x->Calls Tryz.prog 183 #[.agg #[v0,v1,v2,v3,v4,v5,v6,v7,v8,v9,v10,v11,v12],.int .u64 ((a|||b:Nat):Int)] x fun e w'=>e=.returned (.int .u64 ((dh (aA ts q) (a|||b):Nat):Int))/\Below x.heap.size x w'):=fun x hx=>HWI.out x _ HH.out.2.2 hx
 have wL:Hid (∀ x,Below w.heap.size w x->Calls Tryz.prog 183 #[.agg #[v0,v1,v2,v3,v4,v5,v6,v7,v8,v9,v10,v11,v12],.int .u64 (a:Int)] x fun e w'=>e=.returned (.int .u64 ((dh (aA ts q) a:Nat):Int))/\Below x.heap.size x w'):=fun x hx=>HWI.out x _ HH.out.1 hx
 have HWC:Hid (∀ x,Below w.heap.size w x->Calls Tryz.prog 183 #[.agg #[v0,v1,v2,v3,v4,v5,v6,v7,v8,v9,v10,v11,v12],.int .u64 (b:Int)] x fun e w'=>e=.returned (.int .u64 ((dh (aA ts q) b:Nat):Int))/\Below x.heap.size x w'):=fun x hx=>HWI.out x _ HH.out.2.1 hx
 generalize dh (aA ts q) (a|||b)=A1 at *;generalize dh (aA ts q) a=A2 at *;generalize dh (aA ts q) b=A3 at *;have h4:A2|||A3<18446744073709551616:=sP (n:=64) h2 h3
 have HAN:=u64_andNot_nat A1 (A2|||A3) h1 h4;have HUA:Hid (∀ (x:World) (c:Nat),x.cell? (aD c 0)=some (.int .u64 (a:Int))->x.cell? (aD c 1)=some (.int .u64 (b:Int))->Calls Tryz.prog 124 #[.slice (some (aD c 0)) 2 2] x fun e w'=>e=.returned (.int .u64 ((a|||b:Nat):Int))/\w' = x):=fun x c e0 e1=>jq c a b x e0 e1 HH.out.1 HH.out.2.1
 have HUB:Hid (∀ (x:World) (c:Nat),x.cell? (aD c 0)=some (.int .u64 (A2:Int))->x.cell? (aD c 1)=some (.int .u64 (A3:Int))->Calls Tryz.prog 124 #[.slice (some (aD c 0)) 2 2] x fun e w'=>e=.returned (.int .u64 ((A2|||A3:Nat):Int))/\w' = x):=fun x c e0 e1=>jq c A2 A3 x e0 e1 h2 h3
 generalize a|||b=ab at *
 generalize A2|||A3=A23 at *
 generalize A1 &&& (18446744073709551615-A23)=RR at *;obtain⟨w1,hw1,hb1,hg1⟩:=bu w #[v0,v1,v2,v3,v4,v5,v6,v7,v8,v9,v10,v11,v12] 94;obtain⟨a0,a1,a2,a3,a4,a5,a6,a7,a8,a9,fI,fU,a12⟩:=hg1.k13;have HB1:=Zh hb1;go_enter Tryz.func226,Tryz.ntmps226;go_wp2_with fail;refine wH w1 fun hS=>?_
 refine wT 0 (.agg #[v0,v1,v2,v3,v4,v5,v6,v7,v8,v9,v10,v11,v12]) hS (fun x hx=>?_) ?_
 ·have e0:=qd hx a0 a1 a2 a3 a4 a5 a6 a7 a8 a9 fI fU a12;go_simp
 refine wt 1 (.int .u64 (a:Int)) hS ?_;refine wt 2 (.int .u64 (b:Int)) hS ?_;refine wT 6 (.agg #[v0,v1,v2,v3,v4,v5,v6,v7,v8,v9,v10,v11,v12]) hS (fun x hx=>?_) ?_
 ·have e0:=qd hx a0 a1 a2 a3 a4 a5 a6 a7 a8 a9 fI fU a12;go_simp
 refine wt 7 (.int .u64 (a:Int)) hS ?_;refine wT 9 (.agg #[v0,v1,v2,v3,v4,v5,v6,v7,v8,v9,v10,v11,v12]) hS (fun x hx=>?_) ?_
 ·have e0:=qd hx a0 a1 a2 a3 a4 a5 a6 a7 a8 a9 fI fU a12;go_simp
 refine wt 10 (.int .u64 (b:Int)) hS ?_;refine wR 3 fun K hK=>?_
 go_simp;refine oA hK hS fun hS=>?_
 refine wR 4 fun K hK=>?_
 go_simp;refine Z7 (HUA.out _ _ (by simp) (by simp)) ?_;rintro e w2 ⟨rfl,hw2⟩;have hw2:=hw2.symm;subst hw2;refine hK.out _ _ hS fun hS=>?_
 refine wR 5 fun K hK=>?_
 go_simp;refine Z7 (HWA.out _ (aG HB1.out hS)) ?_;rintro e w3 ⟨rfl,hb⟩;refine oT hK hS hb fun hS=>?_
 refine wR 8 fun K hK=>?_
 go_simp;refine Z7 (wL.out _ (aG HB1.out hS)) ?_;rintro e w4 ⟨rfl,hb⟩;refine oT hK hS hb fun hS=>?_
 refine wR 11 fun K hK=>?_
 go_simp;refine Z7 (HWC.out _ (aG HB1.out hS)) ?_;rintro e w5 ⟨rfl,hb⟩;refine oT hK hS hb fun hS=>?_
 refine wR 12 fun K hK=>?_
 go_simp;refine oA hK hS fun hS=>?_
 refine wR 13 fun K hK=>?_
 go_simp;refine Z7 (HUB.out _ _ (by simp) (by simp)) ?_;rintro e w6 ⟨rfl,kC⟩;have kC:=kC.symm;subst kC;refine hK.out _ _ hS fun hS=>?_
 refine wR 14 fun K hK=>?_
 go_simp;refine hK.out _ _ hS fun hS=>?_
 refine wR 15 fun K hK=>?_
 go_simp;refine hK.out _ _ hS fun hS=>?_
 refine wD ?_
 try simp only[pU]
 have HF:=Zh (aG HB1.out hS);go_wp2;go_ret;refine⟨Qe ?_,HF.out⟩
 first | rfl | simp
structure gB where
 ad:Addr
 cap:Nat
 xs:List Nat
def Cq:gB:=⟨(aD 0 0),0,[]⟩
def gB.val (x:gB):Value:=.slice (some x.ad) x.xs.length x.cap
def dY (ls:List gB):List Nat:=(ls.map (·.xs)).flatten
theorem Bc {ls:List gB} {k:Nat} (hk:k<ls.length):dY (ls.take (k+1))=dY (ls.take k)++(ls.getD k Cq).xs:=by
 unfold dY;rw[XB ls Cq hk,Ql,List.flatten_append];simp
theorem Jp {ls:List gB} {k:Nat}:(dY (ls.take k)).length<=(dY ls).length:=by
 have h:dY ls=dY (ls.take k)++dY (ls.drop k):=by
  unfold dY;rw[<- List.flatten_append,<- Ql,List.take_append_drop]
 rw[h,QT];omega
structure Ww (w:World) (ao:Option Addr) (ls:List gB):Prop where
 cells:aY w ao ls.length (fun i=>(ls.getD i Cq).val)
 each:∀ i,i<ls.length->cK w (some (ls.getD i Cq).ad) (ls.getD i Cq).xs
def Tryz.Sn:Go.Shelf.Ren:=⟨fun | 4=>230 | n=>n,fun | 22=>118 | 25=>100 | 3=>3 | 4=>4 | 9=>9 | 20=>20 | 0=>0 | n=>n,fun | n=>n⟩
theorem Tryz.aP:Go.Proofs.Lays8.n4 Tryz.prog Tryz.Sn:={
 mixed:=by kernel_rfl
 f4:=⟨Tryz.f230.name,by decide,Tryz.func230.trans (congrArg some (by kernel_rfl))⟩
 t0:=Tryz.underlying0
 a0:=Tryz.isAgg0
 z0:=Tryz.sizeOf0
 v0:=Tryz.zeroValue0
 t3:=Tryz.underlying3
 a3:=Tryz.isAgg3
 z3:=Tryz.sizeOf3
 v3:=Tryz.zeroValue3
 t4:=Tryz.underlying4
 a4:=Tryz.isAgg4
 z4:=Tryz.sizeOf4
 v4:=Tryz.zeroValue4
 t9:=Tryz.underlying9
 a9:=Tryz.isAgg9
 z9:=Tryz.sizeOf9
 v9:=Tryz.zeroValue9
 t20:=Tryz.underlying20
 a20:=Tryz.isAgg20
 z20:=Tryz.sizeOf20
 v20:=Tryz.zeroValue20
 t22:=Tryz.underlying118
 a22:=Tryz.isAgg118
 z22:=Tryz.sizeOf118
 v22:=Tryz.zeroValue118 }
theorem Sq (n:Nat) (w:World) (hn:n<=1000000) :
  Calls Tryz.prog 230 #[.slice none 0 0,.int .i64 n] w fun e w'=>∃ v,e=.returned v/\w'.ownsRow w.heap.size 100 1 v 0 []/\Below w.heap.size w w':=by
 obtain⟨i0,hi,hz0,hz1,hz2⟩:=ZC Tryz.nT;by_cases h0:n=0
 ·subst h0;have h:=Any8.slices_Grow_room Tryz.aP none 0 0 0 w (Qq _) (by omega) (by omega) (by omega);change Calls Tryz.prog 230 _ _ _ at h;refine h.mono ?_;rintro e w' ⟨rfl,rfl⟩;exact⟨_,rfl,ZE _ _ _ _,Qp _ _⟩
 ·have h:=Any8.slices_Grow_grow Tryz.aP i0 (.pointer none) hi hz0 (by rw[hz1]; decide) none 0 0 n [] w (Qq _) (by omega) (by rw[hz2]; omega) (by omega) (by simp) (fun _=>rfl) (fun a e=>by cases e);change Calls Tryz.prog 230 _ _ _ at h;refine h.mono ?_;rintro e w' ⟨rfl,rfl⟩;refine⟨_,rfl,⟨by simp,.inr ⟨w.heap.size,_,_,rfl,Qq _,kG w.drew _,QQ _,?_,?_,by simp⟩⟩,?_⟩
  ·exact grownCap_le_maxLen _ _ _ _ (by unfold maxLen; omega)
  ·have hge:=grownCap_ge w (0+n) 0 100;have hz:(Value.pointer none).cells.size=1:=rfl;simp only[Array.size_append,size_zeroCells,hz,Zj,Zk]
   show 0+(0+n-0)*1+(grownCap w (0+n) 0 100-(0+n))*1=grownCap w (0+n) 0 100*1
   omega
  ·exact (Qp _ w).drew.alloc (Qq _) _
theorem Sr (W:World) (base:Nat) (v:Value) (fk:List Nat) (hown:W.ownsRow base 100 1 v fk.length (fk.map fun x=>Value.pointer (some (aD x 0)))) (xa:Addr) (xc:Nat) (xs:List Nat) (hx:cK W (some xa) xs) (hl:fk.length+xs.length<=1000) (hb:base<=W.heap.size) (ty:TypeId) :
  ∃ v' w',(Builtin.append_ #[118,118] ty #[v,.slice (some xa) xs.length xc]).run Tryz.prog W=.ok v' w'/\w'.ownsRow base 100 1 v' (fk++xs).length ((fk++xs).map fun x=>Value.pointer (some (aD x 0)))/\Kept (fun b=>v.ownBlock≠some b) W w'/\∃ a m c,v' = .slice a m c:=by
 obtain⟨i0,hi,hz0,hz1,hz2⟩:=ZC Tryz.nT;obtain⟨v',w',hr,ho,hg,_⟩:=ZO (P:=Tryz.prog) W base 118 ty 100 i0 _ 1 8 Tryz.underlying118 hi hz0 hz1 hz2 rfl (by decide) v fk.length _ hown xa xs.length xc (xs.map fun x=>Value.pointer (some (aD x 0))) (by simp)
  (fun j u hj=>by
   by_cases hjl:j<xs.length
   ·obtain⟨b',off',e,hc⟩:=hx.2 j hjl
    cases e
    rw[addr_add];have hu:u=.pointer (some (aD (xs.getD j 0) 0)):=by
     rw[QW,ZG hjl] at hj;rw[Xq,ZG hjl];exact (XX hj).symm
    rw[hu];exact hc
   ·rw[Xr (by simp; omega)] at hj; cases hj) (fun u hu=>by obtain⟨x,_,rfl⟩:=Q0.1 hu; rfl) (by unfold maxLen; omega) (by omega) hb
 exact⟨v',w',hr,by rw[QT,Ql]; exact ho,Zw hg (fun r e hr=>hr e),ZA ho⟩
theorem Jq (ao:Option Addr) (cap:Nat) (ls:List gB) (w:World) (hr:Ww w ao ls) (hn:ls.length<=1000) (ht:(dY ls).length<=1000) :
  Calls Tryz.prog 187 #[.slice ao ls.length cap] w fun e w'=>∃ v,e=.returned v/\w'.ownsRow w.heap.size 100 1 v (dY ls).length ((dY ls).map fun x=>Value.pointer (some (aD x 0)))/\Below w.heap.size w w':=by
 obtain⟨i0,hi,hz0,hz1,hz2⟩:=ZC Tryz.nT;have HR:=Zh hr;have HT:=Zh ht;clear hr ht;go_enter Tryz.func187,Tryz.ntmps187;go_wp2;go_loopw [3,11] (fun s i wr=>∃ k:Nat,k<=ls.length/\i=.int .i64 k/\s=.int .i64 (dY (ls.take k)).length/\w=wr) (fun _ i _=>ls.length-(intOf i).toNat)
 case atStart=>exact⟨0,QQ _,rfl,rfl,rfl⟩
 case round=>
  obtain⟨k,hk,rfl,rfl,rfl⟩:=hrel;by_cases hlt:k<ls.length
  ·obtain⟨b,off,rfl,hcs⟩:=Qf HR.out.cells hlt;have hck:=hcs k hlt;have hle:(dY (ls.take (k+1))).length<=1000:=Q4 Jp HT.out;have hsc:(dY (ls.take (k+1))).length=(dY (ls.take k)).length+(ls.getD k Cq).xs.length:=by rw[Bc hlt,QT]
   have HS:=Zh hsc;generalize ls.getD k Cq=x at *;obtain⟨zh,lC,tH⟩:=x;have Po:w.cell? (aD b (off+k))=some (.slice (some zh) tH.length lC):=hck;have hw:wrap64 (((dY (ls.take k)).length:Int)+(tH.length:Int))=(((dY (ls.take k)).length+tH.length:Nat):Int):=by
    simp only at hsc;unfold wrap64; omega
   have hng:¬ ((((dY (ls.take k)).length+tH.length:Nat):Int)<0):=by omega
   have HWr:=Zh hw;clear hck hcs hle hsc;generalize (dY (ls.take k)).length=a at *;go_wp2;go_roundw
   case rel=>exact⟨k+1,by omega,by go_num,by rw[HS.out]; exact congrArg (Value.int .i64) HWr.out,trivial⟩
   case measure=>simp[intOf]; omega
  ·have hkk:k=ls.length:=by omega
   subst hkk;rw[Qt];have ht:=HT.out;generalize hfl:dY ls=fl at *;have HF:=Zh hfl;clear hfl;go_wp2_with fail;refine (Sq fl.length w (by omega)).mono ?_;rintro e w2 ⟨v0,rfl,hown0,hb0⟩;have HO0:=Zh hown0;have HB0:=Zh hb0;clear hown0 hb0;go_wp2;go_loopw [6,27] (fun v i wr=>∃ k:Nat,k<=ls.length/\i=.int .i64 k/\Hid (wr.ownsRow w.heap.size 100 1 v (dY (ls.take k)).length ((dY (ls.take k)).map fun x=>Value.pointer (some (aD x 0))))/\Hid (Below w.heap.size w wr)) (fun _ i _=>ls.length-(intOf i).toNat)
   case atStart=>exact⟨0,QQ _,rfl,HO0.out,HB0.out⟩
   case round=>
    obtain⟨k,hk,rfl,HOW,xI⟩:=hrel;obtain⟨xa0,xm0,xc0,rfl⟩:=ZA HOW.out;by_cases hlt:k<ls.length
    ·obtain⟨b,off,rfl,hcs⟩:=Qf HR.out.cells hlt;have hck:=cB xI.out (hcs k hlt);have hat:=(HR.out.each k hlt).below xI.out;have hle:(dY (ls.take (k+1))).length<=1000:=by
      have h1:(dY (ls.take (k+1))).length<=(dY ls).length:=Jp;rw[HF.out] at h1;omega
     have hfs:=Bc hlt;have HFS:=Zh hfs;rw[hfs,QT] at hle;generalize ls.getD k Cq=x at *;obtain⟨zh,lC,tH⟩:=x;simp only at hat hle;have Po:wr.cell? (aD b (off+k))=some (.slice (some zh) tH.length lC):=hck;have HA:=Zh hat;clear hck hcs hfs hat;generalize dY (ls.take k)=fk at *;have hsz:=xI.out.size;obtain⟨v',w1,hr1,ho1,hk1,⟨za,zm,zc,rfl⟩⟩:=Sr wr w.heap.size (.slice xa0 xm0 xc0) fk HOW.out zh lC tH HA.out hle hsz 118;have HO:Hid (w1.ownsRow w.heap.size 100 1 (.slice za zm zc) (dY (ls.take (k+1))).length ((dY (ls.take (k+1))).map fun x=>Value.pointer (some (aD x 0)))):=by
      show World.ownsRow _ _ _ _ _ _ _
      rw[HFS.out];exact ho1
     have HB:=Zh (xI.out.trans (hk1.below xI.out.size (fun b hb e=>by have:=(Zy HOW.out e).1; omega)));clear ho1 hk1 hle hsz;go_wp2_with (first | (at_builtin; refine ZN rfl (.tmp 31) (.tmp 32) 118 rfl (.slice xa0 xm0 xc0) (.slice (some zh) tH.length lC) (.slice za zm zc) w1 rfl rfl hr1 ?_));clear hr1 Po;go_wp2;go_roundw
     case rel=>exact⟨k+1,by omega,by go_num,HO.out,HB.out⟩
     case measure=>simp[intOf]; omega
    ·have hkk:k=ls.length:=by omega
     subst hkk;rw[Qt,HF.out] at HOW;go_wp2;go_ret;refine⟨_,rfl,?_,xI.out⟩;rw[HF.out];exact HOW.out
def pF (o:ah):List Value:=[o.val,.pointer none]
theorem SQ {T Tp:TypeId} {F:Nat->Prop} {w:World} {base:Nat} {v:Value} {os:List ah} (h:w.ownsRow base Tp 2 v os.length (os.flatMap pF)) (h0:0<os.length) (ho:∀ o∈os,IntsIn F w o/\o.xs.length<=1000) (A:Nat->Nat) :
  ∃ gb cap,v=.slice (some (aD gb 0)) os.length cap/\base<=gb/\gb<w.heap.size/\os.length<=cap/\cap<=9223372036854775807/\aX T Tp F w gb A os (dz (os.map ah.xs)):=by
 rcases h.2 with⟨_,h1⟩ | ⟨g,cap,cur,rfl,hb,hh,hc,hm,hs,ht⟩
 ·omega
 have hln:(dz (os.map ah.xs)).length=os.length:=by unfold dz; simp
 have hget:∀ i,i<os.length->os.getD i dU∈os:=fun i hi=>by rw[Xq,ZG hi]; exact Qj hi
 have hng:∀ i,i<os.length->(dz (os.map ah.xs)).getD i mG=((os.getD i dU).xs,none):=fun i hi=>by
  unfold dz;rw[Xq,QW,QW,ZG hi,Xq,ZG hi];rfl
 have hcell:∀ i j u,i<os.length->j<2->(pF (os.getD i dU))[j]? = some u->cur[i*2+j]? = some u:=fun i j u hi hj hu=>by
  have h2:=ZR pF 2 (fun _=>rfl) dU os i j hi hj;rw[hu,<- ht,ZH] at h2;split at h2
  ·simpa using h2
  ·cases h2
 have hnone:∀ p∈dz (os.map ah.xs),p.2=none:=fun p hp=>by
  unfold dz at hp;obtain⟨o,_,rfl⟩:=Q0.1 hp;rfl
 refine⟨g,cap,rfl,hb,(QI.1 hh).1,hc,(by unfold maxLen at hm; omega),⟨cur,hh,fun i hi=>?_⟩,fun i hi=>?_,fun p hp x hx=>?_,fun p hp p' hp' x x' hx=>?_⟩
 ·rw[hln] at hi;rw[hng i hi];exact⟨hcell i 0 _ hi (by omega) rfl,hcell i 1 _ hi (by omega) rfl⟩
 ·rw[hln] at hi;rw[hng i hi];exact⟨rfl,(ho _ (hget i hi)).1,(ho _ (hget i hi)).2⟩
 ·rw[hnone p hp] at hx
  cases hx
 ·rw[hnone p hp] at hx
  cases hx
theorem Tryz.SV:(Tryz.prog.info? 195).map (fun i=>(i.zero,i.size,i.bytes))=some (some (.agg #[.slice none 0 0,.pointer none]),2,32):=by kernel_rfl
theorem Nf (W:World) (base:Nat) (v:Value) (os:List ah) (hown:W.ownsRow base 195 2 v os.length (os.flatMap pF)) (hl:os.length<=1000) (hb:base<=W.heap.size) (o:ah) (ty:TypeId) :
  ∃ v' w',(Builtin.append_ #[137,137] ty #[v,.slice (some (aD W.heap.size 0)) 1 1]).run Tryz.prog (W.alloc (.cells #[o.val,.pointer none] 195))=.ok v' w'/\
   w'.ownsRow base 195 2 v' (os++[o]).length ((os++[o]).flatMap pF)/\Kept (fun b=>v.ownBlock≠some b) W w'/\(∃ a m c,v' = .slice a m c):=by
 obtain⟨i0,hi,hz0,hz1,hz2⟩:=ZC Tryz.SV;obtain⟨v',w',hr,ho,hk,hs,hat⟩:=ZV (P:=Tryz.prog) W base 137 ty 195 i0 _ 2 32 Tryz.underlying137 hi hz0 hz1 hz2 rfl (by decide) v os.length _ hown hb (pF o) rfl (fun u hu=>by
  unfold pF ah.val at hu;simp at hu;rcases hu with rfl | rfl <;> rfl) hl (by decide)
 exact⟨v',w',hr,by rw[QT,QS]; simpa using ho,hk,hs⟩
theorem Cs {F:Nat->Prop} {w:World} (os:List ah) (io:Option Addr) (ic:Nat) (sU:aY w io os.length (fun i=>(os.getD i dU).val)) (ho:∀ o∈os,IntsIn F w o/\o.xs.length<=1000) (h0:0<os.length) (hl:os.length<=1000) (A:Nat->Nat) :
  Calls Tryz.prog 68 #[.slice io os.length ic] w fun e w'=>∃ gb cap,e=.returned (.slice (some (aD gb 0)) os.length cap)/\w.heap.size<=gb/\gb<w'.heap.size/\os.length<=cap/\cap<=9223372036854775807/\aX 120 195 F w' gb A os (dz (os.map ah.xs))/\Below w.heap.size w w':=by
 have YL:Hid _:=sU;have jO:Hid (∀ x v,Below w.heap.size w x->x.ownsRow w.heap.size 195 2 v os.length (os.flatMap pF)->∃ gb cap,v=.slice (some (aD gb 0)) os.length cap/\w.heap.size<=gb/\gb<x.heap.size/\os.length<=cap/\cap<=9223372036854775807/\aX 120 195 F x gb A os (dz (os.map ah.xs))):=fun x v hb hv=>SQ hv h0 (fun o hm=>⟨(ho o hm).1.below hb,(ho o hm).2⟩) A
 have yl:Hid (∀ k,k<os.length->os.take (k+1)=os.take k++[os.getD k dU]):=fun k hk=>XB os dU hk
 have Kh:Hid (os.take os.length=os):=Qt;generalize dz (os.map ah.xs)=R at *;clear sU ho;go_enter Tryz.func68,Tryz.ntmps68;go_wp2;go_loopw [3,8] (fun pv iv wr=>∃ k:Nat,k<=os.length/\iv=.int .i64 (k:Int)/\Hid (wr.ownsRow w.heap.size 195 2 pv (os.take k).length ((os.take k).flatMap pF))/\Hid (Below w.heap.size w wr)) (fun _ iv _=>os.length-(intOf iv).toNat)
 case atStart=>exact⟨0,QQ _,rfl,ZE _ _ _ _,Qp _ _⟩
 case round=>
  obtain⟨k,hk,rfl,HO,HB⟩:=hrel;obtain⟨xa,xm,xc,rfl⟩:=ZA HO.out;by_cases hlt:k<os.length
  ·obtain⟨bb,LW,rfl,hbc⟩:=Qf (aY.below HB.out YL.out) hlt;have hck:=hbc k hlt;have HT:=Zh (yl.out k hlt);obtain⟨v',w5,pO,lD,hk5,⟨za,zm,zc,rfl⟩⟩:=Nf wr w.heap.size (.slice xa xm xc) (os.take k) HO.out (by rw[Q6]; omega) HB.out.size (os.getD k dU) 137;rw[<- HT.out] at lD;have qw:Hid _:=lD;have jZ:=Zh (HB.out.trans (hk5.below HB.out.size (fun b hb e=>by have:=(Zy HO.out e).1; omega)));generalize os.getD k dU=o at *;obtain⟨oa,oc,ox⟩:=o;simp only[ah.val] at *;clear hbc lD hk5 HT HO;go_wp2_with (first | (at_builtin; refine ZN rfl (.tmp 12) (.tmp 15) 137 rfl (.slice xa xm xc) (.slice (some (aD wr.heap.size 0)) 1 1) (.slice za zm zc) w5 rfl rfl pO ?_));clear pO hck;go_wp2;go_roundw
   case rel=>exact⟨k+1,by omega,by go_num,qw.out,jZ.out⟩
   case measure=>simp[intOf]; omega
  ·have hko:os.length=k:=by omega
   have HF:Hid _:=jO.out wr (.slice xa xm xc) HB.out (by
    have:=HO.out;rw[<- hko,Kh.out] at this;exact this)
   clear hko;go_wp2;go_ret;obtain⟨gb,cap,e,h1,h2,h3,h4,h5⟩:=HF.out;exact⟨gb,cap,by rw[<- e]; rfl,h1,h2,h3,h4,h5,HB.out⟩
theorem FI {F:Nat->Prop} {W0 w:World} {f:aB} {ts:List af} {q:ae} (E:Env f ts q W0) (hz:Fz F W0 w):Calls Tryz.prog 66 #[.agg (f.cells ts q)] w (bF 120 F w (fF ts q)):=by
 obtain⟨v0,v1,v2,v3,v4,v5,v6,v7,v8,v9,v10,v11,v12,dw,hv0,-,hv2,-,-,-,hv6,-,-,hv9,-⟩:=Z8 f ts q;have hone:=E.one;have h5:=E.five;have hc:2 ^ q.wh.length-1<2 ^ q.wh.length:=by have:0<2 ^ q.wh.length:=Nat.pow_pos (by omega); omega
 have M0:Hid (∀ x (k:Nat),Below w.heap.size w x->k<q.src.xs.length->Calls Tryz.prog 113 #[.agg #[v0,v1,v2,v3,v4,v5,v6,v7,v8,v9,v10,v11,v12],.agg #[.int .i64 1,.int .i64 0,.int .i64 0,.int .i64 (k:Int),.slice none 0 0,.int .i64 0,.slice none 0 0],.slice none 0 0] x (bF 120 F x (aP ts q (lX (k:Int)) []))):=fun x k hx hk=>by
  rw[<- dw];exact Di E (hz.next hx) k (by omega) (by omega)
 have Ou:Hid (∀ x b r r' (k:Nat),Below w.heap.size w x->k+1<q.src.xs.length->aC 120 F x r (dV ts q k)->aC 120 F x r' (aP ts q (lX ((k+1:Nat):Int)) [])->x.cell? (aD b 0)=some (.pointer (some (aD r 0)))->x.cell? (aD b 1)=some (.pointer (some (aD r' 0)))->Calls Tryz.prog 113 #[.agg #[v0,v1,v2,v3,v4,v5,v6,v7,v8,v9,v10,v11,v12],.agg #[.int .i64 3,.int .i64 0,.int .i64 0,.int .i64 0,.slice none 0 0,.int .i64 0,.slice none 0 0],.slice (some (aD b 0)) 2 2] x (bF 120 F x (dV ts q (k+1)))):=fun x b r r' k hx hk hr hr' h0 h1=>by
  rw[<- dw];exact Hy E (hz.next hx) ⟨3,0,0,0,dU,0,dU⟩ ⟨gI x,mI.nil _ _,fun _=>rfl,gI x,mI.nil _ _,fun _=>rfl,Qq _,QQ _,QQ _⟩ r r' b _ _ hr (mf ts q k (by omega)).1 hr' (Ez ts (by omega) (by omega)) h0 h1 (by decide:(3:Int)<=3) (by decide:(3:Int)<=5) (Xt _)
 have HFI:Hid (∀ x r,Below w.heap.size w x->aC 120 F x r (dV ts q (q.src.xs.length-1))->r<x.heap.size->Calls Tryz.prog 114 #[.agg #[v0,v1,v2,v3,v4,v5,v6,v7,v8,v9,v10,v11,v12],.pointer (some (aD r 0)),.int .u64 ((2 ^ q.wh.length-1:Nat):Int)] x fun e w'=>∃ r',e=.returned (.pointer (some (aD r' 0)))/\aC 120 F w' r' (bN ts q (dV ts q (q.src.xs.length-1)) (2 ^ q.wh.length-1))/\(r' = r∨x.heap.size<=r')/\r'<w'.heap.size/\Below x.heap.size x w'):=fun x r hx hr hl=>by
  rw[<- dw];exact vG E (hz.next hx) r _ hr (mf ts q _ (by omega)).1 _ hc hl
 have pR:Hid (∀ x b r t (k:Int),Below w.heap.size w x->7<=k->k<=10->iC q t->aC 120 F x r t->x.cell? (aD b 0)=some (.pointer (some (aD r 0)))->Calls Tryz.prog 113 #[.agg #[v0,v1,v2,v3,v4,v5,v6,v7,v8,v9,v10,v11,v12],.agg #[.int .i64 k,.int .i64 0,.int .i64 0,.int .i64 0,.slice none 0 0,.int .i64 0,.slice none 0 0],.slice (some (aD b 0)) 1 1] x (bF 120 F x (aP ts q (jw k) [t]))):=fun x b r t k hx h7 h10 ht hr h0=>by
  rw[<- dw];exact qN E (hz.next hx) ⟨k,0,0,0,dU,0,dU⟩ ⟨gI x,mI.nil _ _,fun _=>rfl,gI x,mI.nil _ _,fun _=>rfl,Qq _,QQ _,QQ _⟩ r b t hr ht h0 (by show arity k=1; unfold arity; rw[Qs (by omega),Qs (by omega)]) (by show 2<=k; omega) h10 (Xt _)
 obtain⟨T1,hT1⟩:∃ t,bN ts q (dV ts q (q.src.xs.length-1)) (2 ^ q.wh.length-1)=t:=⟨_,rfl⟩
 have lK:Hid (iC q T1):=by rw[<- hT1]; exact oK (mf ts q _ (by omega)).1 hc
 obtain⟨T2,zq⟩:∃ t,aP ts q (jw (if q.group=true then 7 else 9)) [T1]=t:=⟨_,rfl⟩
 have nK:Hid (iC q T2):=by rw[<- zq]; exact (xC ts (by split <;> omega) (by split <;> omega) lK.out).1
 have hR:fF ts q=if 0<q.ord.xs.length then aP ts q (jw 10) [T2] else T2:=by unfold fF; simp only; rw[hT1,zq]
 obtain⟨R,hRR⟩:∃ R,R=fF ts q:=⟨_,rfl⟩
 rw[<- hRR,dw];obtain⟨T3,AV⟩:∃ t,aP ts q (jw 10) [T2]=t:=⟨_,rfl⟩
 have HRR:Hid (R=if 0<q.ord.xs.length then T3 else T2):=by show _=_; rw[hRR,hR,AV]
 rw[hT1] at HFI;have HGA:Hid (∀ x b r,Below w.heap.size w x->aC 120 F x r T1->x.cell? (aD b 0)=some (.pointer (some (aD r 0)))->Calls Tryz.prog 113 #[.agg #[v0,v1,v2,v3,v4,v5,v6,v7,v8,v9,v10,v11,v12],.agg #[.int .i64 (if q.group=true then 7 else 9),.int .i64 0,.int .i64 0,.int .i64 0,.slice none 0 0,.int .i64 0,.slice none 0 0],.slice (some (aD b 0)) 1 1] x (bF 120 F x T2)):=fun x b r hx hr h0=>by
  rw[<- zq];exact pR.out x b r T1 _ hx (by split <;> omega) (by split <;> omega) lK.out hr h0
 have oO:Hid (∀ x b r,Below w.heap.size w x->aC 120 F x r T2->x.cell? (aD b 0)=some (.pointer (some (aD r 0)))->Calls Tryz.prog 113 #[.agg #[v0,v1,v2,v3,v4,v5,v6,v7,v8,v9,v10,v11,v12],.agg #[.int .i64 10,.int .i64 0,.int .i64 0,.int .i64 0,.slice none 0 0,.int .i64 0,.slice none 0 0],.slice (some (aD b 0)) 1 1] x (bF 120 F x T3)):=fun x b r hx hr h0=>by
  rw[<- AV];exact pR.out x b r T2 10 hx (by omega) (by omega) nK.out hr h0
 have HPZ:Hid (aP ts q (lX ((0:Nat):Int)) []=dV ts q 0):=rfl;clear hR hRR hT1 zq AV dw E hz pR lK nK hc;generalize aP ts q=GT at *;generalize dV ts q=PT at *;generalize 2 ^ q.wh.length-1=CN at *;unfold ah.val at hv0 hv6;generalize q.src.xs.length=n at *;generalize q.src.ad=sa at *;generalize q.src.cap=sc at *;generalize q.ord.xs.length=ol at *;generalize q.ord.ad=oa at *;generalize q.ord.cap=oc at *;generalize q.group=gr at *;obtain⟨w1,hw1,hb1,hg1⟩:=bu w #[v0,v1,v2,v3,v4,v5,v6,v7,v8,v9,v10,v11,v12] 94;obtain⟨a0,a1,a2,a3,a4,a5,a6,a7,a8,a9,fI,fU,a12⟩:=hg1.k13;rw[hv0] at a0;rw[hv2] at a2;rw[hv6] at a6;rw[hv9] at a9;have HV:Hid (v0=_/\v2=_/\v6=_/\v9=_):=⟨hv0,hv2,hv6,hv9⟩
 have HB1:=Zh hb1;have hGN:=M0.out w1 0 hb1 (by omega);rw[HPZ.out] at hGN;clear hb1 hg1 HPZ;rw[hv0,hv2,hv6,hv9] at M0 Ou HFI HGA oO hGN hw1 ⊢;clear hv0 hv2 hv6 hv9 HV;go_enter Tryz.func66,Tryz.ntmps66;go_wp2_with fail;refine hGN.mono ?_;rintro e w2 ⟨r0,rfl,hT,hr1,hr2,hb2⟩;have b0:=cB hb2 a0;have b1:=cB hb2 a1;have b2:=cB hb2 a2;have b3:=cB hb2 a3;have b4:=cB hb2 a4;have b5:=cB hb2 a5;have b6:=cB hb2 a6;have b7:=cB hb2 a7;have b8:=cB hb2 a8;have b9:=cB hb2 a9;have b10:=cB hb2 fI;have b11:=cB hb2 fU;have b12:=cB hb2 a12;clear a0 a1 a2 a3 a4 a5 a6 a7 a8 a9 fI fU a12;have HT0:=Zh hT;have Ob:Hid (w.heap.size<=r0/\r0<w2.heap.size):=⟨Q4 HB1.out.size hr1,hr2⟩
 have HB2:=Zh (aG HB1.out hb2);clear hGN hT hr1 hr2 hb2 hw1;go_wp2;go_loopw [3,4] (fun pv sv wr=>∃ m k r:Nat,m<=n/\Hid (m=k+1)/\sv=.int .i64 (m:Int)/\pv=.pointer (some (aD r 0))/\Hid (aC 120 F wr r (PT k))/\Hid (w.heap.size<=r/\r<wr.heap.size)/\Hid (Below w2.heap.size w2 wr)) (fun _ sv _=>n-(intOf sv).toNat)
 case atStart=>exact⟨1,0,r0,hone,rfl,rfl,rfl,HT0.out,Ob.out,Qp _ _⟩
 case round=>
  obtain⟨m,k,r,hm,HMK,rfl,rfl,HT,HR,og⟩:=hrel;have c0:=cB og.out b0;have c1:=cB og.out b1;have c2:=cB og.out b2;have c3:=cB og.out b3;have c4:=cB og.out b4;have c5:=cB og.out b5;have c6:=cB og.out b6;have c7:=cB og.out b7;have c8:=cB og.out b8;have c9:=cB og.out b9;have c10:=cB og.out b10;have c11:=cB og.out b11;have c12:=cB og.out b12;by_cases hlt:m<n
  ·have hGN:=M0.out wr m (aG HB2.out og.out) hlt;have VM:=Ou.out;clear HFI HGA oO;go_wp2_with fail;refine hGN.mono ?_;rintro e w3 ⟨r',rfl,hT',hr1',hr2',hb3⟩;have d0:=cB hb3 c0;have d1:=cB hb3 c1;have d2:=cB hb3 c2;have d3:=cB hb3 c3;have d4:=cB hb3 c4;have d5:=cB hb3 c5;have d6:=cB hb3 c6;have d7:=cB hb3 c7;have d8:=cB hb3 c8;have d9:=cB hb3 c9;have d10:=cB hb3 c10;have d11:=cB hb3 c11;have d12:=cB hb3 c12;clear c0 c1 c2 c3 c4 c5 c6 c7 c8 c9 c10 c11 c12;have AV:=HT.out.below hb3;obtain⟨w4,hw4⟩:∃ x,w3.alloc (.cells #[.pointer (some (aD r 0)),.pointer (some (aD r' 0))] 100)=x:=⟨_,rfl⟩
   have hb4:Below w3.heap.size w3 w4:=by rw[<- hw4]; exact bU _ _
   have kL:=aG og.out (aG hb3 hb4);have hmk:=HMK.out;have hGT:=VM w4 w3.heap.size r r' k (aG HB2.out kL) (by omega) (AV.below hb4) (by rw[<- hmk]; exact hT'.below hb4) (by rw[<- hw4]; simp) (by rw[<- hw4]; simp);have ajY:=Zh kL;clear VM hGN hT' hr1' hr2' hb3 AV hb4 kL hmk;go_wp2_with fail;refine hGT.mono ?_;rintro e w5 ⟨r2,rfl,Ud,hr1,hr2,hb5⟩;have YV:=Zh Ud;have jZ:=Zh (aG ajY.out hb5);have Jd:Hid (w.heap.size<=r2/\r2<w5.heap.size):=⟨Q4 HB2.out.size (Q4 ajY.out.size hr1),hr2⟩
   clear hGT Ud hr1 hr2 hb5 hw4;go_wp2;go_roundw
   case rel=>exact⟨m+1,k+1,r2,by omega,by show _=_; rw[HMK.out],by go_num,rfl,YV.out,Jd.out,jZ.out⟩
   case measure=>simp[intOf]; omega
  ·have hmn:n=m:=by omega
   subst hmn;have hkn:k=n-1:=by have:=HMK.out; omega
   subst hkn;have hFI:=HFI.out wr r (aG HB2.out og.out) HT.out HR.out.2;clear M0 Ou HFI hlt hm;go_wp2_with fail;refine hFI.mono ?_;rintro e w3 ⟨r3,rfl,AV,apq,apr,hb3⟩;have d0:=cB hb3 c0;have d1:=cB hb3 c1;have d2:=cB hb3 c2;have d3:=cB hb3 c3;have d4:=cB hb3 c4;have d5:=cB hb3 c5;have d6:=cB hb3 c6;have d7:=cB hb3 c7;have d8:=cB hb3 c8;have d9:=cB hb3 c9;have d10:=cB hb3 c10;have d11:=cB hb3 c11;have d12:=cB hb3 c12;clear c0 c1 c2 c3 c4 c5 c6 c7 c8 c9 c10 c11 c12;have HB3:=Zh (aG HB2.out (aG og.out hb3));have HT3:=Zh AV;obtain⟨w4,hw4⟩:∃ x,w3.alloc (.cells #[.pointer (some (aD r3 0))] 100)=x:=⟨_,rfl⟩
   have hb4:Below w3.heap.size w3 w4:=by rw[<- hw4]; exact bU _ _
   have hGA:=HGA.out w4 w3.heap.size r3 (aG HB3.out hb4) (HT3.out.below hb4) (by rw[<- hw4]; simp);have jE:=Zh hb4;clear hFI AV apq apr hb3 hb4 HGA HT HR og
   cases gr with
   | true =>
    rw[Qr rfl] at hGA;go_wp2_with fail;refine hGA.mono ?_;rintro e w5 ⟨r5,rfl,Ud,hr1,hr2,hb5⟩;have fV:=aG jE.out hb5;have e0:=cB fV d0;have e1:=cB fV d1;have e2:=cB fV d2;have e3:=cB fV d3;have e4:=cB fV d4;have e5:=cB fV d5;have e6:=cB fV d6;have e7:=cB fV d7;have e8:=cB fV d8;have e9:=cB fV d9;have e10:=cB fV d10;have e11:=cB fV d11;have e12:=cB fV d12;clear d0 d1 d2 d3 d4 d5 d6 d7 d8 d9 d10 d11 d12;have jZ:=Zh (aG HB3.out fV);have YV:=Zh Ud;have Jd:Hid (w.heap.size<=r5/\r5<w5.heap.size):=⟨Q4 HB3.out.size (Q4 jE.out.size hr1),hr2⟩
    clear hGA Ud hr1 hr2 hb5 fV hw4;by_cases ho:0<ol
    ·have zb:=Qu ho;have Ki:Hid (R=T3):=by show _=_; rw[HRR.out,Qr ho]
     obtain⟨w6,kC⟩:∃ x,w5.alloc (.cells #[.pointer (some (aD r5 0))] 100)=x:=⟨_,rfl⟩
     have hb6:Below w5.heap.size w5 w6:=by rw[<- kC]; exact bU _ _
     have hGB:=oO.out w6 w5.heap.size r5 (aG jZ.out hb6) (YV.out.below hb6) (by rw[<- kC]; simp);have yE:=Zh (aG jZ.out hb6);clear hb6 oO HRR;go_wp2_with fail;refine hGB.mono ?_;rintro e w7 ⟨r7,rfl,hT7,hr1,hr2,jh⟩;have HP:Hid (bF 120 F w T3 (.returned (.pointer (some (aD r7 0)))) w7):=⟨r7,rfl,hT7,Q4 yE.out.size hr1,hr2,aG yE.out jh⟩
     clear hGB hT7 hr1 hr2 jh kC;go_wp2;go_ret;rw[Ki.out];exact HP.out
    ·have zb:=Qh ho;have Ki:Hid (R=T2):=by show _=_; rw[HRR.out,Qs ho]
     obtain rfl:ol=0:=by omega
     clear oO HRR ho zb;go_wp2;go_ret;rw[Ki.out];exact⟨r5,rfl,YV.out,Jd.out.1,Jd.out.2,jZ.out⟩
   | false =>
    rw[Qs (by decide)] at hGA;go_wp2_with fail;refine hGA.mono ?_;rintro e w5 ⟨r5,rfl,Ud,hr1,hr2,hb5⟩;have fV:=aG jE.out hb5;have e0:=cB fV d0;have e1:=cB fV d1;have e2:=cB fV d2;have e3:=cB fV d3;have e4:=cB fV d4;have e5:=cB fV d5;have e6:=cB fV d6;have e7:=cB fV d7;have e8:=cB fV d8;have e9:=cB fV d9;have e10:=cB fV d10;have e11:=cB fV d11;have e12:=cB fV d12;clear d0 d1 d2 d3 d4 d5 d6 d7 d8 d9 d10 d11 d12;have jZ:=Zh (aG HB3.out fV);have YV:=Zh Ud;have Jd:Hid (w.heap.size<=r5/\r5<w5.heap.size):=⟨Q4 HB3.out.size (Q4 jE.out.size hr1),hr2⟩
    clear hGA Ud hr1 hr2 hb5 fV hw4;by_cases ho:0<ol
    ·have zb:=Qu ho;have Ki:Hid (R=T3):=by show _=_; rw[HRR.out,Qr ho]
     obtain⟨w6,kC⟩:∃ x,w5.alloc (.cells #[.pointer (some (aD r5 0))] 100)=x:=⟨_,rfl⟩
     have hb6:Below w5.heap.size w5 w6:=by rw[<- kC]; exact bU _ _
     have hGB:=oO.out w6 w5.heap.size r5 (aG jZ.out hb6) (YV.out.below hb6) (by rw[<- kC]; simp);have yE:=Zh (aG jZ.out hb6);clear hb6 oO HRR;go_wp2_with fail;refine hGB.mono ?_;rintro e w7 ⟨r7,rfl,hT7,hr1,hr2,jh⟩;have HP:Hid (bF 120 F w T3 (.returned (.pointer (some (aD r7 0)))) w7):=⟨r7,rfl,hT7,Q4 yE.out.size hr1,hr2,aG yE.out jh⟩
     clear hGB hT7 hr1 hr2 jh kC;go_wp2;go_ret;rw[Ki.out];exact HP.out
    ·have zb:=Qh ho;have Ki:Hid (R=T2):=by show _=_; rw[HRR.out,Qs ho]
     obtain rfl:ol=0:=by omega
     clear oO HRR ho zb;go_wp2;go_ret;rw[Ki.out];exact⟨r5,rfl,YV.out,Jd.out.1,Jd.out.2,jZ.out⟩
