import Derived.Test.YtlpbelhfpoilpabGreatDoorC01
import Derived.Test.YtlpbelhfpoilpabGreatDoorC03
import Derived.Test.YtlpbelhfpoilpabGreatDoorC04
import Derived.Test.YtlpbelhfpoilpabGreatDoorC05
import Derived.Test.YtlpbelhfpoilpabGreatDoorC09
import Derived.Test.YtlpbelhfpoilpabGreatDoorC12
import Derived.Test.YtlpbelhfpoilpabGreatDoorC13
import Derived.Test.YtlpbelhfpoilpabGreatDoorC14
import Derived.Test.YtlpbelhfpoilpabGreatDoorC17
set_option linter.all false
set_option maxRecDepth 100000
set_option maxHeartbeats 16000000
namespace Go.Scout
open Go.RowKit
def World.put7 (W:World) (B:Nat) (v0 v1 v2 v3 v4 v5 v6:Value):World:=(((((((W.setCell (aD B 0) v0).setCell (aD B 1) v1).setCell (aD B 2) v2).setCell (aD B 3) v3).setCell (aD B 4) v4).setCell (aD B 5) v5).setCell (aD B 6) v6)
theorem World.put7_gb {W:World} {B:Nat} {t:TypeId} {a0 a1 a2 a3 a4 a5 a6:Value} (h:GB W B t #[a0,a1,a2,a3,a4,a5,a6]) (v0 v1 v2 v3 v4 v5 v6:Value):GB (World.put7 W B v0 v1 v2 v3 v4 v5 v6) B t #[v0,v1,v2,v3,v4,v5,v6]:=by
 unfold World.put7;have h0:GB (W.setCell (aD B 0) v0) B t #[v0,a1,a2,a3,a4,a5,a6]:=h.set 0 v0;have h1:GB ((W.setCell (aD B 0) v0).setCell (aD B 1) v1) B t #[v0,v1,a2,a3,a4,a5,a6]:=h0.set 1 v1;have h2:GB (((W.setCell (aD B 0) v0).setCell (aD B 1) v1).setCell (aD B 2) v2) B t #[v0,v1,v2,a3,a4,a5,a6]:=h1.set 2 v2;have h3:GB ((((W.setCell (aD B 0) v0).setCell (aD B 1) v1).setCell (aD B 2) v2).setCell (aD B 3) v3) B t #[v0,v1,v2,v3,a4,a5,a6]:=h2.set 3 v3;have h4:GB (((((W.setCell (aD B 0) v0).setCell (aD B 1) v1).setCell (aD B 2) v2).setCell (aD B 3) v3).setCell (aD B 4) v4) B t #[v0,v1,v2,v3,v4,a5,a6]:=h3.set 4 v4;have h5:GB ((((((W.setCell (aD B 0) v0).setCell (aD B 1) v1).setCell (aD B 2) v2).setCell (aD B 3) v3).setCell (aD B 4) v4).setCell (aD B 5) v5) B t #[v0,v1,v2,v3,v4,v5,a6]:=h4.set 5 v5;have h6:GB (((((((W.setCell (aD B 0) v0).setCell (aD B 1) v1).setCell (aD B 2) v2).setCell (aD B 3) v3).setCell (aD B 4) v4).setCell (aD B 5) v5).setCell (aD B 6) v6) B t #[v0,v1,v2,v3,v4,v5,v6]:=h5.set 6 v6;exact h6
theorem World.put7_kept (W:World) (B:Nat) (v0 v1 v2 v3 v4 v5 v6:Value):Kept (fun x=>x≠B) W (World.put7 W B v0 v1 v2 v3 v4 v5 v6):=by
 unfold World.put7;exact (((((((Kept.setCell _ (aD B 0) _ (fun h=>h rfl)).trans (Kept.setCell _ (aD B 1) _ (fun h=>h rfl))).trans (Kept.setCell _ (aD B 2) _ (fun h=>h rfl))).trans (Kept.setCell _ (aD B 3) _ (fun h=>h rfl))).trans (Kept.setCell _ (aD B 4) _ (fun h=>h rfl))).trans (Kept.setCell _ (aD B 5) _ (fun h=>h rfl))).trans (Kept.setCell _ (aD B 6) _ (fun h=>h rfl)))
structure QueryV.New (q:QueryV) (n:Nat):Prop where
 src:∀ a,q.src.ad=some a->n<=a.block
 wh:∀ a,q.wad=some a->n<=a.block
 cl:∀ i,i<q.wh.length->∀ a,(q.wh.getD i lz).ad=some a->n<=a.block
 keys:∀ a,q.keys.ad=some a->n<=a.block
 sums:∀ a,q.sums.ad=some a->n<=a.block
 sel:∀ a,q.sel.ad=some a->n<=a.block
 ord:∀ a,q.ord.ad=some a->n<=a.block
structure QSame (q p:QueryV):Prop where
 src:p.src.xs=q.src.xs
 len:p.wh.length=q.wh.length
 cs:∀ i,i<p.wh.length->(p.wh.getD i lz).cs=(q.wh.getD i lz).cs
 group:p.group=q.group
 keys:p.keys.xs=q.keys.xs
 sums:p.sums.xs=q.sums.xs
 sel:p.sel.xs=q.sel.xs
 ord:p.ord.xs=q.ord.xs
structure QTidy (q:QueryV):Prop where
 src:(q.src.ad=none->q.src.cap=0)/\q.src.xs.length<=1000
 wh:(q.wad=none->q.wcap=0)/\q.wh.length<=100
 cl:∀ i,i<q.wh.length->((q.wh.getD i lz).ad=none->(q.wh.getD i lz).cap=0)/\(q.wh.getD i lz).cs.length<=100
 keys:(q.keys.ad=none->q.keys.cap=0)/\q.keys.xs.length<=1000
 sums:(q.sums.ad=none->q.sums.cap=0)/\q.sums.xs.length<=1000
 sel:(q.sel.ad=none->q.sel.cap=0)/\q.sel.xs.length<=1000
 ord:(q.ord.ad=none->q.ord.cap=0)/\q.ord.xs.length<=1000
end Go.Scout
namespace Go.Proofs.YtlpbelhfpoilpabGreatDoor
open Go.RowKit Go.Scout Go.Shelf
theorem loadQuery {W:World} {B:Nat} {v0 v1 v2 v3 v4 v5 v6:Value} (h:GB W B 26 #[v0,v1,v2,v3,v4,v5,v6]):(loadVar 26 (aD B 0)).run Tryz.prog W=.ok (.agg #[v0,v1,v2,v3,v4,v5,v6]) W:=by
 have c0:W.cell? (aD B 0)=some v0:=h.cell 0;have c1:W.cell? (aD B 1)=some v1:=h.cell 1;have c2:W.cell? (aD B 2)=some v2:=h.cell 2;have c3:W.cell? (aD B 3)=some v3:=h.cell 3;have c4:W.cell? (aD B 4)=some v4:=h.cell 4;have c5:W.cell? (aD B 5)=some v5:=h.cell 5;have c6:W.cell? (aD B 6)=some v6:=h.cell 6;simp[go_sem,c0,c1,c2,c3,c4,c5,c6]
theorem copied_any (q:QueryV) (w:World) (hq:q.At w) (ht:QTidy q) :
  Calls Tryz.prog 27 #[.agg q.cells] w fun e w'=>∃ p:QueryV,e=.returned (.agg p.cells)/\p.At w'/\QSame q p/\p.New w.heap.size/\(p.keys.ad=none->p.keys.cap=0)/\p.keys.xs.length<=p.keys.cap/\Below w.heap.size w w':=by
 have hQC:q.cells=#[q.src.val,.slice q.wad q.wh.length q.wcap,.bool q.group,q.keys.val,q.sums.val,q.sel.val,q.ord.val]:=rfl;rw[hQC];clear hQC;obtain⟨w1,hw1,hb1,hg1⟩:=newB w #[q.src.val,.slice q.wad q.wh.length q.wcap,.bool q.group,q.keys.val,q.sums.val,q.sel.val,q.ord.val] 26;obtain⟨w2,hw2,hb2,hg2⟩:=newB w1 #[.slice none 0 0,.slice none 0 0,.bool false,.slice none 0 0,.slice none 0 0,.slice none 0 0,.slice none 0 0] 26;have hb02:Below w.heap.size w w2:=bQ1 hb1 hb2;have hg12:GB w2 w.heap.size 26 #[q.src.val,.slice q.wad q.wh.length q.wcap,.bool q.group,q.keys.val,q.sums.val,q.sel.val,q.ord.val]:=hg1.keep (Kept.of_below (s:=fun b=>b<w1.heap.size) hb2 (fun _ h _=>h)) hg1.lt;have HQ:Hid (q.At w):=hq;have HT:Hid (QTidy q):=ht;have HB2:Hid (Below w.heap.size w w2):=hb02;have HG2:Hid (GB w2 w1.heap.size 26 #[.slice none 0 0,.slice none 0 0,.bool false,.slice none 0 0,.slice none 0 0,.slice none 0 0,.slice none 0 0]):=hg2;have HG1:Hid (GB w2 w.heap.size 26 #[q.src.val,.slice q.wad q.wh.length q.wcap,.bool q.group,q.keys.val,q.sums.val,q.sel.val,q.ord.val]):=hg12;have hwh:ClausesAt w2 q.wad q.wh:=hq.wh.below hb02;have hCL:=cloneClauses_any q.wad q.wcap q.wh w2 ⟨hwh.1,hwh.2.1⟩ ht.wh.1 (by have:=ht.wh.2; omega);have HWH:Hid (ClausesAt w2 q.wad q.wh):=hwh;have c1:w2.cell? (aD w.heap.size 1)=some (.slice q.wad q.wh.length q.wcap):=hg12.cell 1;have HCS:Hid (∀ (x:World) (i:Nat) (l:ClauseV),i<q.wh.length->l=q.wh.getD i lz->CondsAt x l.ad l.cs->Calls Tryz.prog 37 #[.slice l.ad l.cs.length l.cap] x fun e w'=>∃ ad cap,e=.returned (.slice ad l.cs.length cap)/\CondsAt w' ad l.cs/\(∀ a,ad=some a->x.heap.size<=a.block)/\Below x.heap.size x w'):=fun x i l hi hl hc=>by
  have hti:=ht.cl i hi;rw[<- hl] at hti;refine (cloneConds_any l.ad l.cap l.cs x hc hti.1 (by omega)).mono ?_;rintro e w' ⟨v,rfl,ho,hb⟩;obtain⟨ad,cap,rfl,hca,hnew⟩:=conds_of_own ho hti.2;exact⟨ad,cap,rfl,hca,fun a ea=>(hnew a ea).1,hb⟩
 have HNE:Hid (w.heap.size≠w1.heap.size):=Nat.ne_of_lt hg1.lt;have HWW:Hid (w.heap.size<=w1.heap.size):=hb1.size;have HCI:Hid (∀ (x:World) (iv:IntsV),Below w.heap.size w x->iv.At w->((iv.ad=none->iv.cap=0)/\iv.xs.length<=1000)->Calls Tryz.prog 38 #[iv.val] x fun e w'=>∃ jv:IntsV,e=.returned jv.val/\jv.xs=iv.xs/\jv.At w'/\(∀ a,jv.ad=some a->x.heap.size<=a.block)/\(jv.ad=none->jv.cap=0)/\jv.xs.length<=jv.cap/\Below x.heap.size x w'):=fun x iv hx hi ht=>by
  refine (cloneInts_any iv x (IntsAt.below hx hi) ht.1 (by omega)).mono ?_;rintro e w' ⟨v,rfl,ho,hb⟩;obtain⟨jv,rfl,h1,h2,h3,h4,h5⟩:=ints_ownR ho (by omega);exact⟨jv,rfl,h1,h2,h3,h4,h5,hb⟩
 clear hq ht hb1 hg1 hb2 hg2 hb02 hg12 hwh;go_enter Tryz.func27,Tryz.ntmps27;go_wp2_with fail;refine hCL.mono ?_;rintro e w3 ⟨v,rfl,ho3,hb3⟩;have HC0:Hid (CpS 67 w2 q.wh 0 v q.wh w3):=CpS.start HWH.out ho3 hb3;obtain⟨va,vn,vc,rfl⟩:=ownsRow_slice ho3;obtain rfl:vn=q.wh.length:=by
  rcases ho3.2 with⟨e,h0⟩ | ⟨g,cap,cur,e,_⟩
  ·injection e with e1 e2 e3;omega
  ·injection e with e1 e2 e3
 clear hCL c1 hw1 hw2 ho3 hb3;have hw100:q.wh.length<=100:=HT.out.wh.2;go_wp2;go_loopw [11] (fun iv wr=>∃ k:Nat,k<=q.wh.length/\iv=.int .i64 (k:Int)/\Hid (∃ ls,CpS 67 w2 q.wh k (.slice va q.wh.length vc) ls wr)) (fun iv _=>q.wh.length-(intOf iv).toNat)
 case atStart=>exact⟨0,Nat.zero_le _,rfl,_,HC0.out⟩
 case round=>
  obtain⟨k,hk,rfl,HJ⟩:=hrel;obtain⟨ls,hJ⟩:=HJ.out;by_cases hlt:k<q.wh.length
  ·have hlk:k<ls.length:=by rw[hJ.len]; exact hlt
   obtain⟨g,cp,hv,hcell⟩:∃ g cp,(Value.slice va q.wh.length vc)=.slice (some (aD g 0)) ls.length cp/\wr.cell? (aD g k)=some (ls.getD k lz).val:=by
    rcases own_newsN hJ.own with⟨_,h1⟩ | ⟨g,cap,e,_,_,hc⟩
    ·omega
    ·refine⟨g,cap,e,hc k _ ?_⟩;rw[List.getElem?_map,List.getElem?_eq_getElem hlk,List.getD_eq_getElem?_getD,List.getElem?_eq_getElem hlk];rfl
   injection hv with hv1 hv2 hv3;subst hv1;have hlz:ls.getD k lz=q.wh.getD k lz:=hJ.old k (Nat.le_refl _) hlk;obtain⟨l,hl⟩:∃ l,l=q.wh.getD k lz:=⟨_,rfl⟩
   have hcd:=(hJ.cs k hlk).2;rw[hlz,<- hl] at hcell hcd;have HJ1:Hid (CpS 67 w2 q.wh k (.slice (some (aD g 0)) q.wh.length vc) ls wr):=hJ;obtain⟨cur,hcur⟩:=own_cellsN hJ.own (b:=g) rfl;have HGB:Hid (GB wr g 67 cur):=hcur;obtain⟨y1,hy1⟩:∃ z,wr.alloc (.cells #[.slice none 0 0] 67)=z:=⟨_,rfl⟩
   have hn1:GB y1 wr.heap.size 67 #[.slice none 0 0]:=by rw[<- hy1]; exact bQ3 _ _
   have hB1:Below wr.heap.size wr y1:=by rw[<- hy1]; exact bQ2 _ _
   obtain⟨la,lc,lx⟩:=l;simp only[ClauseV.val] at hcell hcd;have hcell1:=cB hB1 hcell;have hn10:y1.cell? (aD wr.heap.size 0)=some (.slice none 0 0):=hn1.cell 0;have hf10:=hn1.frozen 0;obtain⟨y2,hy2⟩:∃ z,y1.setCell (aD wr.heap.size 0) (.slice la lx.length lc)=z:=⟨_,rfl⟩
   have hn2:y2.cell? (aD wr.heap.size 0)=some (.slice la lx.length lc):=by rw[<- hy2]; exact (hn1.set 0 _).cell 0
   have hB2:Below wr.heap.size wr y2:=by
    rw[<- hy2];exact hB1.trans ((Kept.setCell (s:=fun b=>b≠wr.heap.size) _ _ _ (fun h=>h rfl)).below hB1.size (fun b hb=>Nat.ne_of_lt hb))
   have hCC:=HCS.out y2 k ⟨la,lc,lx⟩ hlt hl (hcd.below hB2);change Calls Tryz.prog 37 #[.slice la lx.length lc] y2 (fun e w'=>∃ ad cap,e=.returned (.slice ad lx.length cap)/\CondsAt w' ad lx/\(∀ a,ad=some a->y2.heap.size<=a.block)/\Below y2.heap.size y2 w') at hCC;have HBB:Hid (Below wr.heap.size wr y2):=hB2;have HL:Hid ((⟨la,lc,lx⟩:ClauseV)=q.wh.getD k lz):=hl;clear hJ HJ hcur hcd hB1 hB2 hn1 hlz hl hv2 hv3 HC0;go_wp2_with fail;refine hCC.mono ?_;rintro e y3 ⟨ad,cap,rfl,hca,hnew,hb3⟩;have hB3:Below wr.heap.size wr y3:=HBB.out.trans (hb3.mono HBB.out.size);have hcs:lx=(q.wh.getD k lz).cs:=by rw[<- HL.out]
   have HNX:Hid (CpS 67 w2 q.wh (k+1) (.slice (some (aD g 0)) q.wh.length vc) (ls.set k ⟨ad,cap,(q.wh.getD k lz).cs⟩) (y3.setCell (aD g k) (.slice ad lx.length cap))):=by
    obtain⟨g',cp',e,h⟩:=HJ1.out.next hlk hB3 (cap:=cap) (by rw[<- hcs]; exact hca) (fun a ea=>Nat.le_trans HBB.out.size (hnew a ea));injection e with e1;injection e1 with e1;injection e1 with e1;rw[<- hcs,<- e1] at h;rw[<- hcs];exact h
   have hcell3:=cB hB3 hcell;have hf3:y3.frozen? (aD g k)=false:=(HGB.out.keep (Kept.of_below (s:=fun b=>b<wr.heap.size) hB3 (fun _ h _=>h)) HGB.out.lt).frozen k;clear hCC hy1 hy2 hcell hcell1 hn10 hf10 hn2 hca hnew hb3 hB3 hcs;go_wp2;go_roundw
   case rel=>exact⟨k+1,by omega,by go_num,_,HNX.out⟩
   case measure=>simp[intOf]; omega
  ·have hkn:k=q.wh.length:=by omega
   have hgq:=HG1.out.keep (Kept.of_below (s:=fun b=>b<w2.heap.size) hJ.below (fun _ h _=>h)) HG1.out.lt;have hgr:=HG2.out.keep (Kept.of_below (s:=fun b=>b<w2.heap.size) hJ.below (fun _ h _=>h)) HG2.out.lt;have d0:wr.cell? (aD w.heap.size 0)=some (q.src.val):=hgq.cell 0;have d2:wr.cell? (aD w.heap.size 2)=some (.bool q.group):=hgq.cell 2;have d3:wr.cell? (aD w.heap.size 3)=some (q.keys.val):=hgq.cell 3;have d4:wr.cell? (aD w.heap.size 4)=some (q.sums.val):=hgq.cell 4;have d5:wr.cell? (aD w.heap.size 5)=some (q.sel.val):=hgq.cell 5;have d6:wr.cell? (aD w.heap.size 6)=some (q.ord.val):=hgq.cell 6;have hne:w.heap.size≠w1.heap.size:=HNE.out;have HJ1:Hid (CpS 67 w2 q.wh k (.slice va q.wh.length vc) ls wr):=hJ;have HKN:Hid (k=q.wh.length):=hkn;have HGR:Hid (GB wr w1.heap.size 26 #[.slice none 0 0,.slice none 0 0,.bool false,.slice none 0 0,.slice none 0 0,.slice none 0 0,.slice none 0 0]):=hgr;have HBW:Hid (Below w.heap.size w wr):=bQ1 HB2.out hJ.below;have HLT:Hid (w.heap.size<wr.heap.size/\w1.heap.size<wr.heap.size):=⟨hgq.lt,hgr.lt⟩
   clear hJ HJ hgq hgr hkn HC0;go_wp2_with fail;refine wp_region_held_drew (S:=fun x=>Kept (fun b=>b≠w1.heap.size) wr x) (by kernel_rfl) (Kept.of_below ((Below.refl _ _).drew) (fun _ h _=>h)) (fun hS=>?_);refine wT 0 (.pointer (some (aD w.heap.size 0))) hS (fun x hx=>?_) ?_
   ·go_simp
   refine wT 1 (q.src.val) hS (fun x hx=>?_) ?_
   ·have e0:=cell_keepP hx d0 hne;go_simp
   refine wT 3 (.slice va q.wh.length vc) hS (fun x hx=>?_) ?_
   ·go_simp
   refine wT 4 (.pointer (some (aD w.heap.size 2))) hS (fun x hx=>?_) ?_
   ·go_simp
   refine wT 5 (.bool q.group) hS (fun x hx=>?_) ?_
   ·have e0:=cell_keepP hx d2 hne;go_simp
   refine wT 6 (.pointer (some (aD w.heap.size 3))) hS (fun x hx=>?_) ?_
   ·go_simp
   refine wT 7 (q.keys.val) hS (fun x hx=>?_) ?_
   ·have e0:=cell_keepP hx d3 hne;go_simp
   refine wT 9 (.pointer (some (aD w.heap.size 4))) hS (fun x hx=>?_) ?_
   ·go_simp
   refine wT 10 (q.sums.val) hS (fun x hx=>?_) ?_
   ·have e0:=cell_keepP hx d4 hne;go_simp
   refine wT 12 (.pointer (some (aD w.heap.size 5))) hS (fun x hx=>?_) ?_
   ·go_simp
   refine wT 13 (q.sel.val) hS (fun x hx=>?_) ?_
   ·have e0:=cell_keepP hx d5 hne;go_simp
   refine wT 15 (.pointer (some (aD w.heap.size 6))) hS (fun x hx=>?_) ?_
   ·go_simp
   refine wT 16 (q.ord.val) hS (fun x hx=>?_) ?_
   ·have e0:=cell_keepP hx d6 hne;go_simp
   have hBz0:Below wr.heap.size wr wr.drew:=(Below.refl _ _).drew;refine wR 2 fun K hK=>?_
   go_simp;refine Calls.mono (HCI.out _ q.src (bQ1 HBW.out hBz0) HQ.out.src HT.out.src) ?_;rintro e s1 ⟨iv,rfl,hx,hat,hnew,hnil,hcap,hb⟩;obtain⟨aa,ac,ax⟩:=iv;simp only[IntsV.val];have hBs1:=bQ1 hBz0 hb;have HXs1:Hid (Below wr.drew.heap.size wr.drew s1):=hb;clear hb;have Hs1:Hid _:=And.intro hx (And.intro hat (And.intro hnew (And.intro hnil hcap)));clear hx hat hnew hnil hcap;refine hK.out _ _ (Kept.of_below hBs1 (fun _ h _=>h)) (fun hS=>?_);clear hK K;refine wR 8 fun K hK=>?_
   go_simp;refine Calls.mono (HCI.out _ q.keys (bQ1 HBW.out hBs1) HQ.out.keys HT.out.keys) ?_;rintro e s2 ⟨iv,rfl,hx,hat,hnew,hnil,hcap,hb⟩;obtain⟨ba,bc,bx⟩:=iv;simp only[IntsV.val];have hBs2:=bQ1 hBs1 hb;have HXs2:Hid (Below s1.heap.size s1 s2):=hb;clear hb;have Hs2:Hid _:=And.intro hx (And.intro hat (And.intro hnew (And.intro hnil hcap)));clear hx hat hnew hnil hcap;refine hK.out _ _ (Kept.of_below hBs2 (fun _ h _=>h)) (fun hS=>?_);clear hK K;refine wR 11 fun K hK=>?_
   go_simp;refine Calls.mono (HCI.out _ q.sums (bQ1 HBW.out hBs2) HQ.out.sums HT.out.sums) ?_;rintro e s3 ⟨iv,rfl,hx,hat,hnew,hnil,hcap,hb⟩;obtain⟨ca,cc,cx⟩:=iv;simp only[IntsV.val];have hBs3:=bQ1 hBs2 hb;have HXs3:Hid (Below s2.heap.size s2 s3):=hb;clear hb;have Hs3:Hid _:=And.intro hx (And.intro hat (And.intro hnew (And.intro hnil hcap)));clear hx hat hnew hnil hcap;refine hK.out _ _ (Kept.of_below hBs3 (fun _ h _=>h)) (fun hS=>?_);clear hK K;refine wR 14 fun K hK=>?_
   go_simp;refine Calls.mono (HCI.out _ q.sel (bQ1 HBW.out hBs3) HQ.out.sel HT.out.sel) ?_;rintro e s4 ⟨iv,rfl,hx,hat,hnew,hnil,hcap,hb⟩;obtain⟨da,dc,dx⟩:=iv;simp only[IntsV.val];have hBs4:=bQ1 hBs3 hb;have HXs4:Hid (Below s3.heap.size s3 s4):=hb;clear hb;have Hs4:Hid _:=And.intro hx (And.intro hat (And.intro hnew (And.intro hnil hcap)));clear hx hat hnew hnil hcap;refine hK.out _ _ (Kept.of_below hBs4 (fun _ h _=>h)) (fun hS=>?_);clear hK K;refine wR 17 fun K hK=>?_
   go_simp;refine Calls.mono (HCI.out _ q.ord (bQ1 HBW.out hBs4) HQ.out.ord HT.out.ord) ?_;rintro e s5 ⟨iv,rfl,hx,hat,hnew,hnil,hcap,hb⟩;obtain⟨fa,fc,fx⟩:=iv;simp only[IntsV.val];have hBs5:=bQ1 hBs4 hb;have HXs5:Hid (Below s4.heap.size s4 s5):=hb;clear hb;have Hs5:Hid _:=And.intro hx (And.intro hat (And.intro hnew (And.intro hnil hcap)));clear hx hat hnew hnil hcap;refine hK.out _ _ (Kept.of_below hBs5 (fun _ h _=>h)) (fun hS=>?_);clear hK K;refine wT 18 (.agg #[.slice aa ax.length ac,.slice va q.wh.length vc,.bool q.group,.slice ba bx.length bc,.slice ca cx.length cc,.slice da dx.length dc,.slice fa fx.length fc]) hS (fun x hx=>?_) ?_
   ·go_simp
   have hgr5:=HGR.out.keep (Kept.of_below (s:=fun b=>b<wr.heap.size) hBs5 (fun _ h _=>h)) HGR.out.lt;have HLV:Hid _:=loadQuery (World.put7_gb hgr5 (.slice aa ax.length ac) (.slice va q.wh.length vc) (.bool q.group) (.slice ba bx.length bc) (.slice ca cx.length cc) (.slice da dx.length dc) (.slice fa fx.length fc));have hkz:=World.put7_kept s5 w1.heap.size (.slice aa ax.length ac) (.slice va q.wh.length vc) (.bool q.group) (.slice ba bx.length bc) (.slice ca cx.length cc) (.slice da dx.length dc) (.slice fa fx.length fc);have r0:s5.cell? (aD w1.heap.size 0)=some (.slice none 0 0):=hgr5.cell 0;have z0:=hgr5.frozen 0;have r1:s5.cell? (aD w1.heap.size 1)=some (.slice none 0 0):=hgr5.cell 1;have z1:=hgr5.frozen 1;have r2:s5.cell? (aD w1.heap.size 2)=some (.bool false):=hgr5.cell 2;have z2:=hgr5.frozen 2;have r3:s5.cell? (aD w1.heap.size 3)=some (.slice none 0 0):=hgr5.cell 3;have z3:=hgr5.frozen 3;have r4:s5.cell? (aD w1.heap.size 4)=some (.slice none 0 0):=hgr5.cell 4;have z4:=hgr5.frozen 4;have r5:s5.cell? (aD w1.heap.size 5)=some (.slice none 0 0):=hgr5.cell 5;have z5:=hgr5.frozen 5;have r6:s5.cell? (aD w1.heap.size 6)=some (.slice none 0 0):=hgr5.cell 6;have z6:=hgr5.frozen 6;have HEND:Hid (∃ p:QueryV,Ending.returned (.agg #[.slice aa ax.length ac,.slice va q.wh.length vc,.bool q.group,.slice ba bx.length bc,.slice ca cx.length cc,.slice da dx.length dc,.slice fa fx.length fc])=.returned (.agg p.cells)/\p.At (World.put7 s5 w1.heap.size (.slice aa ax.length ac) (.slice va q.wh.length vc) (.bool q.group) (.slice ba bx.length bc) (.slice ca cx.length cc) (.slice da dx.length dc) (.slice fa fx.length fc))/\QSame q p/\p.New w.heap.size/\(p.keys.ad=none->p.keys.cap=0)/\p.keys.xs.length<=p.keys.cap/\Below w.heap.size w (World.put7 s5 w1.heap.size (.slice aa ax.length ac) (.slice va q.wh.length vc) (.bool q.group) (.slice ba bx.length bc) (.slice ca cx.length cc) (.slice da dx.length dc) (.slice fa fx.length fc))):=by
    have hrb:w1.heap.size<w2.heap.size:=HG2.out.lt;have hz5:CpS 67 w2 q.wh k (.slice va q.wh.length vc) ls s5:=HJ1.out.step hBs5;have hll:ls.length=q.wh.length:=hz5.len;have hww:w2.heap.size<=wr.heap.size:=HJ1.out.below.size;have hw0:w.heap.size<=w2.heap.size:=HB2.out.size;generalize hZ:World.put7 s5 w1.heap.size (.slice aa ax.length ac) (.slice va q.wh.length vc) (.bool q.group) (.slice ba bx.length bc) (.slice ca cx.length cc) (.slice da dx.length dc) (.slice fa fx.length fc)=Z at *;have hown:=ownsRow_keep hz5.own hkz (fun g e e2=>by have h1:=(ownsRow_lt hz5.own e).1; omega);have hcs:∀ i,i<ls.length->CondsAt Z (ls.getD i lz).ad (ls.getD i lz).cs:=fun i hi=>CondsAt.keptF (hz5.cs i hi).2 hkz fun _ a ea e2=>by
     have h1:=hz5.new i (by rw[HKN.out,<- hll]; exact hi) hi a ea;omega
    obtain⟨ad2,cp2,e2,hcl⟩:=clauses_of_own hown (fun x hx=>by
     obtain⟨i,hi,rfl⟩:=List.mem_iff_getElem.1 hx;have:=hcs i hi;rw[List.getD_eq_getElem?_getD,List.getElem?_eq_getElem hi] at this;exact this) (by omega)
    injection e2 with e21 e22 e23;subst e21;have key:∀ {ad:Option Addr} {xs:List Int},IntsAt s5 ad xs->(∀ a,ad=some a->wr.heap.size<=a.block)->IntsAt Z ad xs:=fun {ad xs} h1 h2=>IntsAt.keptF h1 hkz fun _ a ea e3=>by
     have:=h2 a ea;omega
    have na:∀ a,aa=some a->wr.heap.size<=a.block:=fun a ea=>Nat.le_trans (Nat.le_refl _) (Hs1.out.2.2.1 a ea)
    have i_a:IntsAt Z aa ax:=key (IntsAt.below HXs5.out (IntsAt.below HXs4.out (IntsAt.below HXs3.out (IntsAt.below HXs2.out (Hs1.out.2.1))))) na;have nb:∀ a,ba=some a->wr.heap.size<=a.block:=fun a ea=>Nat.le_trans hBs1.size (Hs2.out.2.2.1 a ea)
    have i_b:IntsAt Z ba bx:=key (IntsAt.below HXs5.out (IntsAt.below HXs4.out (IntsAt.below HXs3.out (Hs2.out.2.1)))) nb;have nc:∀ a,ca=some a->wr.heap.size<=a.block:=fun a ea=>Nat.le_trans hBs2.size (Hs3.out.2.2.1 a ea)
    have i_c:IntsAt Z ca cx:=key (IntsAt.below HXs5.out (IntsAt.below HXs4.out (Hs3.out.2.1))) nc;have nd:∀ a,da=some a->wr.heap.size<=a.block:=fun a ea=>Nat.le_trans hBs3.size (Hs4.out.2.2.1 a ea)
    have i_d:IntsAt Z da dx:=key (IntsAt.below HXs5.out (Hs4.out.2.1)) nd;have nf:∀ a,fa=some a->wr.heap.size<=a.block:=fun a ea=>Nat.le_trans hBs4.size (Hs5.out.2.2.1 a ea)
    have i_f:IntsAt Z fa fx:=key (Hs5.out.2.1) nf;refine⟨⟨⟨aa,ac,ax⟩,va,vc,ls,q.group,⟨ba,bc,bx⟩,⟨ca,cc,cx⟩,⟨da,dc,dx⟩,⟨fa,fc,fx⟩⟩,?_,⟨i_a,hcl,i_b,i_c,i_d,i_f⟩,⟨Hs1.out.1,hll,fun i hi=>(hz5.cs i hi).1,rfl,Hs2.out.1,Hs3.out.1,Hs4.out.1,Hs5.out.1⟩,⟨fun a ea=>?_,fun a ea=>?_,fun i hi a ea=>?_,fun a ea=>?_,fun a ea=>?_,fun a ea=>?_,fun a ea=>?_⟩,Hs2.out.2.2.2.1,Hs2.out.2.2.2.2,HBW.out.trans ((hBs5.mono HBW.out.size).trans (hkz.below (Nat.le_trans HBW.out.size hBs5.size) fun b hb=>by have:=HWW.out; omega))⟩
    ·unfold QueryV.cells;simp only[IntsV.val];rw[hll]
    ·have:=na a ea;omega
    ·have h1:=(ownsRow_lt hown (g:=a.block) (by rw[show va=some a from ea]; rfl)).1;omega
    ·have h1:=hz5.new i (by rw[HKN.out,<- hll]; exact hi) hi a ea;omega
    ·have:=nb a ea;omega
    ·have:=nc a ea;omega
    ·have:=nd a ea;omega
    ·have:=nf a ea;omega
   have HKZ:Hid (Kept (fun b=>b≠w1.heap.size) wr (World.put7 s5 w1.heap.size (.slice aa ax.length ac) (.slice va q.wh.length vc) (.bool q.group) (.slice ba bx.length bc) (.slice ca cx.length cc) (.slice da dx.length dc) (.slice fa fx.length fc))):=(Kept.of_below (s:=fun b=>b≠w1.heap.size) hBs5 (fun _ h _=>h)).trans hkz;unfold World.put7 at HEND HLV HKZ;clear hkz hgr5;refine wR 19 fun K hK=>?_
   go_simp;refine hK.out _ _ (HKZ.out) (fun hS=>?_);clear hK K;refine wpAnyH_done (by kernel_rfl) ?_ _
   try simp only[Act.put,List.getElem_toArray,List.getElem_cons_succ,List.getElem_cons_zero,List.setIfInBounds_toArray,List.set_cons_succ,List.set_cons_zero]
   go_wp2;exact bodyPost_ret (ret_cell1 (p:=2) rfl rfl HLV.out) rfl HEND.out
end Go.Proofs.YtlpbelhfpoilpabGreatDoor
namespace Go.Scout
open Go.RowKit
structure FactsV.New (f:FactsV) (n:Nat):Prop where
 ca:∀ a,f.ca=some a->n<=a.block
 ra:∀ a,f.ra=some a->n<=a.block
 na:∀ a,f.na=some a->n<=a.block
 pa:∀ a,f.pa=some a->n<=a.block
theorem cell_but {A B:World} {R b off:Nat} {v:Value} (h:A.cell? (aD b off)=some v) (hk:Kept (fun x=>x≠R) A B) (hb:b≠R):B.cell? (aD b off)=some v:=cell_keep h hk hb
theorem NatsAt.but {A B:World} {R:Nat} {ao:Option Addr} {xs:List Nat} (h:NatsAt A ao xs) (hk:Kept (fun x=>x≠R) A B) (hb:∀ a,ao=some a->a.block≠R):NatsAt B ao xs:=⟨h.1,fun i hi=>by
 obtain⟨b,off,e,hc⟩:=h.2 i hi;exact⟨b,off,e,cell_but hc hk (hb _ e)⟩⟩
theorem ColsAt.but {A B:World} {R:Nat} {ao:Option Addr} {cs:List (Nat × Int)} (h:ColsAt A ao cs) (hk:Kept (fun x=>x≠R) A B) (hb:∀ a,ao=some a->a.block≠R):ColsAt B ao cs:=⟨h.1,fun i hi=>by
 obtain⟨b,off,e,c0,c1⟩:=h.2 i hi;exact⟨b,off,e,cell_but c0 hk (hb _ e),cell_but c1 hk (hb _ e)⟩⟩
theorem PartsAt.but {A B w:World} {R:Nat} {ao:Option Addr} {ps:List PartV} (h:PartsAt A ao ps) (hk:Kept (fun x=>x≠R) A B) (hb:∀ a,ao=some a->a.block≠R) (ho:∀ i,i<ps.length->(ps.getD i pvz).Ok w) (hw:Below w.heap.size w B):PartsAt B ao ps:=⟨h.1,fun i hi=>by
 obtain⟨⟨b,off,e,c0,c1,c2,c3,c4,c5⟩,_⟩:=h.2 i hi;have hn:=hb _ e;exact⟨⟨b,off,e,cell_but c0 hk hn,cell_but c1 hk hn,cell_but c2 hk hn,cell_but c3 hk hn,cell_but c4 hk hn,cell_but c5 hk hn⟩,(ho i hi).below hw⟩⟩
theorem FactsV.At.but {A B:World} {R:Nat} {f:FactsV} {ts:List TableD} {q:QueryV} (h:f.At ts q A) (hk:Kept (fun x=>x≠R) A B) {n:Nat} (hn:f.New n) (hR:R<n) (hq:q.At B):f.At ts q B:=
 ⟨hq,h.cols.but hk (fun a e=>by have:=hn.ca a e; omega),h.rows.but hk (fun a e=>by have:=hn.ra a e; omega),h.conc.but hk (fun a e=>by have:=hn.na a e; omega),h.parts.but hk (fun a e=>by have:=hn.pa a e; omega),h.nl,h.pl⟩
structure Killed (N:Nat->Prop) (W W0:World):Prop where
 size:W0.heap.size=W.heap.size
 block:∀ b,¬ N b->W0.heap[b]? = W.heap[b]?
 dead:∀ b o v,W0.cell? (aD b o)=some v->¬ N b
theorem kill_some (N:Nat->Prop) (W:World):∃ W0,Killed N W W0:=by
 classical
 have hs:({ W with heap:=W.heap.mapIdx fun i o=>if N i then .deferred none else o }:World).heap.size=W.heap.size:=by simp
 refine⟨{ W with heap:=W.heap.mapIdx fun i o=>if N i then .deferred none else o },hs,fun b h=>?_,fun b o v hc h=>?_⟩
 ·simp only[Array.getElem?_mapIdx]
  cases W.heap[b]? with
  | none => rfl
  | some o => simp[h]
 ·have hl:=cell_lt hc;rw[hs] at hl;have e:({ W with heap:=W.heap.mapIdx fun i o=>if N i then .deferred none else o }:World).heap[b]? = some (.deferred none):=by
   simp only[Array.getElem?_mapIdx];rw[Array.getElem?_eq_getElem hl];simp[h]
  simp[World.cell?,e] at hc
theorem Killed.cell {N:Nat->Prop} {W W0:World} (K:Killed N W W0) {b o:Nat} {v:Value} (h:¬ N b) (hc:W.cell? (aD b o)=some v):W0.cell? (aD b o)=some v:=by
 rw[World.cell?_of_block (K.block b h)];exact hc
theorem Killed.under {N:Nat->Prop} {W W0:World} (K:Killed N W W0):Under W0 W:=
 ⟨by rw[K.size]; exact Nat.le_refl _,fun b o v hc=>by
  have h:=K.dead _ _ _ hc;rw[World.cell?_of_block (K.block b h)] at hc;exact hc⟩
theorem Killed.live {N:Nat->Prop} {W W0:World} (K:Killed N W W0) {b:Nat} (h:Live W0 b):¬ N b:=by
 obtain⟨o,v,hc⟩:=h;exact K.dead _ _ _ hc
theorem killW_cells {N:Nat->Prop} {W W0:World} (K:Killed N W W0) {ao:Option Addr} {n:Nat} {g:Nat->Value} (h:CellsAt W ao n g) (hn:∀ a,ao=some a->¬ N a.block):CellsAt W0 ao n g:=fun i hi=>by
 obtain⟨b,off,e,hc⟩:=h i hi;exact⟨b,off,e,K.cell (hn _ e) hc⟩
theorem killW_cellsB {N:Nat->Prop} {W W' W0:World} (K:Killed N W W0) {ao:Option Addr} {k n:Nat} {g:Nat->Value} (hN:∀ b,N b->b<n∨W'.heap.size<=b) (hb:Below W'.heap.size W' W) (h:CellsAt W' ao k g) (hn:∀ a,ao=some a->n<=a.block):CellsAt W0 ao k g:=fun i hi=>by
 obtain⟨b,off,e,hc⟩:=h i hi;have h1:n<=b:=hn _ e;have h2:b<W'.heap.size:=cell_lt hc;exact⟨b,off,e,K.cell (fun hx=>by rcases hN b hx with h | h <;> omega) (cB hb hc)⟩
theorem killW_query {N:Nat->Prop} {W W' W0:World} (K:Killed N W W0) {q:QueryV} {n:Nat} (hN:∀ b,N b->b<n∨W'.heap.size<=b) (hb:Below W'.heap.size W' W) (h:q.At W') (hn:q.New n):q.At W0:=by
 refine⟨⟨h.src.1,killW_cellsB K hN hb h.src.2 hn.src⟩,⟨h.wh.1,killW_cellsB K hN hb h.wh.2.1 hn.wh,fun i hi=>⟨(h.wh.2.2 i hi).1,fun j hj=>?_⟩⟩,⟨h.keys.1,killW_cellsB K hN hb h.keys.2 hn.keys⟩,⟨h.sums.1,killW_cellsB K hN hb h.sums.2 hn.sums⟩,⟨h.sel.1,killW_cellsB K hN hb h.sel.2 hn.sel⟩,⟨h.ord.1,killW_cellsB K hN hb h.ord.2 hn.ord⟩⟩;obtain⟨b,off,e,c0,c1,c2,c3,c4⟩:=(h.wh.2.2 i hi).2 j hj;have h1:n<=b:=hn.cl i hi _ e;have h2:b<W'.heap.size:=cell_lt c0;have hb':¬ N b:=fun hx=>by rcases hN b hx with h | h <;> omega
 exact⟨b,off,e,K.cell hb' (cB hb c0),K.cell hb' (cB hb c1),K.cell hb' (cB hb c2),K.cell hb' (cB hb c3),K.cell hb' (cB hb c4)⟩
theorem killW_facts {N:Nat->Prop} {W W0:World} (K:Killed N W W0) {f:FactsV} {ts:List TableD} {q:QueryV} {m:Nat} (hN:∀ b,N b->b<m) (h:f.At ts q W) (hf:f.New m) (hq:q.At W0):f.At ts q W0:=by
 have key:∀ {ao:Option Addr},(∀ a,ao=some a->m<=a.block)->∀ a,ao=some a->¬ N a.block:=fun h a e hx=>by
  have h1:=h a e;have h2:=hN _ hx;omega
 refine⟨hq,⟨h.cols.1,fun i hi=>?_⟩,⟨h.rows.1,killW_cells K h.rows.2 (key hf.ra)⟩,⟨h.conc.1,killW_cells K h.conc.2 (key hf.na)⟩,⟨h.parts.1,killW_cells K h.parts.2 (key hf.pa)⟩,h.nl,h.pl⟩;obtain⟨b,off,e,c0,c1⟩:=h.cols.2 i hi;have hb:¬ N b:=key hf.ca _ e;exact⟨b,off,e,K.cell hb c0,K.cell hb c1⟩
theorem Env.kill {N:Nat->Prop} {W W' W0:World} (K:Killed N W W0) {f:FactsV} {ts:List TableD} {q:QueryV} {n m:Nat} (E:Env f ts q W) (h0:¬ N 0) (hNf:∀ b,N b->b<m) (hf:f.New m) (hNq:∀ b,N b->b<n∨W'.heap.size<=b) (hb:Below W'.heap.size W' W) (hq:q.At W') (hn:q.New n):Env f ts q W0:=
 ⟨E.ok,killW_facts K hNf E.facts hf (killW_query K hNq hb hq hn),fun j u hj=>K.cell h0 (E.shapes j u hj),E.one,E.five,E.eight,E.ord,E.few,E.keys,E.want,E.kfew,E.kcap,E.knil⟩
theorem Fz.kill {N:Nat->Prop} {W w W0:World} (K:Killed N W W0) (hb:Below W.heap.size W w) (hN:∀ b,N b->b<w.heap.size):Fz (fun b=>¬ N b) W0 w:=
 ⟨⟨by rw[K.size]; exact hb.size,fun b o v hc=>cB hb (K.under.cell b o v hc)⟩,fun b h=>K.live h,fun b h hn=>by have:=hN b hn; omega⟩
structure Chk (ts:List TableD) (q:QueryV):Prop where
 cat:catB ts=true
 src:allB q.src.xs ts.length=true
 five:q.src.xs.length<=5
 eight:q.wh.length<=8
 cols:ClausesOk ts q
 some:∀ i,i<q.wh.length->0<(q.wh.getD i lz).cs.length
 three:∀ i,i<q.wh.length->(q.wh.getD i lz).cs.length<=3
theorem Chk.ok {ts:List TableD} {q:QueryV} (h:Chk ts q):Ok ts q:=⟨h.cat,h.src,by have:=h.five; omega,by have:=h.eight; omega,h.cols,h.some⟩
theorem chk_of {ts:List TableD} {q:QueryV} (h:q.check ts=0):Chk ts q/\0<q.src.xs.length/\(q.group=false->allB q.ord.xs q.sel.xs.length=true)/\q.ord.xs.length<=4/\allB q.sel.xs (widthN ts q.src.xs)=true:=by
 unfold QueryV.check checkN at h
 cases hc:catB ts with
 | false => rw[if_pos hc] at h; omega
 | true =>
  rw[if_neg (by rw[hc]; simp)] at h
  cases hf:fullB q.src.xs q.whs q.keys.xs q.sums.xs q.sel.xs q.ord.xs with
  | true => rw[if_pos hf] at h; omega
  | false =>
   rw[if_neg (by rw[hf]; simp)] at h;by_cases hr:allB q.src.xs ts.length=true/\0<q.src.xs.length/\clausesB q.whs (widthN ts q.src.xs)=true/\restB (widthN ts q.src.xs) q.group q.keys.xs q.sums.xs q.sel.xs q.ord.xs=true
   ·obtain⟨h1,h2,h3,h4⟩:=hr;unfold fullB at hf;rw[Bool.or_eq_false_iff,decide_eq_false_iff_not] at hf;obtain⟨f1,f2⟩:=hf;have hwl:q.whs.length=q.wh.length:=by unfold QueryV.whs; simp
    have hget:∀ i,i<q.wh.length->(q.wh.getD i lz).cs∈q.whs:=fun i hi=>by
     unfold QueryV.whs;rw[List.mem_map];exact⟨q.wh.getD i lz,by simp[List.getD,hi],rfl⟩
    unfold clausesB at h3;rw[List.all_eq_true] at h3;have hcl:∀ i,i<q.wh.length->0<(q.wh.getD i lz).cs.length/\∀ c∈(q.wh.getD i lz).cs,condB c (widthN ts q.src.xs)=true:=fun i hi=>by
     have:=h3 _ (hget i hi);unfold clauseB at this;rw[Bool.and_eq_true,decide_eq_true_eq,List.all_eq_true] at this;exact this
    unfold restB at h4;simp only[Bool.and_eq_true] at h4;obtain⟨⟨⟨⟨⟨⟨⟨r1,_⟩,_⟩,r4⟩,_⟩,_⟩,_⟩,_⟩:=h4;refine⟨⟨hc,h1,by omega,by omega,?_,fun i hi=>(hcl i hi).1,fun i hi=>?_⟩,h2,fun hg=>?_,by omega,r1⟩
    ·intro i hi c hm;unfold columnsN at hm;rw[List.mem_flatMap] at hm;obtain⟨x,hx,hcx⟩:=hm;have hb:=(hcl i hi).2 x hx;unfold condB at hb;simp only[Bool.and_eq_true,decide_eq_true_eq] at hb;obtain⟨⟨⟨⟨b1,b2⟩,b3⟩,b4⟩,b5⟩:=hb;unfold condCols at hcx;split at hcx
     ·rename_i hop
      rw[if_neg hop.1,hop.2] at b5;simp only[Bool.false_eq_true,if_false,Bool.and_eq_true,decide_eq_true_eq] at b5;simp only[List.mem_cons,List.not_mem_nil,or_false] at hcx;rcases hcx with rfl | rfl
      ·exact⟨b1,b2⟩
      ·exact⟨b5.1,by omega⟩
     ·simp only[List.mem_cons,List.not_mem_nil,or_false] at hcx;subst hcx;exact⟨b1,b2⟩
    ·rw[List.any_eq_false] at f2;have:=f2 _ (hget i hi);simp only[decide_eq_true_eq] at this;omega
    ·rw[hg] at r4;exact r4
   ·rw[if_neg hr] at h; omega
theorem QSame.whs {q p:QueryV} (h:QSame q p):p.whs=q.whs:=by
 unfold QueryV.whs;apply List.ext_getElem
 ·rw[List.length_map,List.length_map,h.len]
 ·intro i h1 h2;rw[List.length_map] at h1 h2;have:=h.cs i h1;rw[List.getD_eq_getElem?_getD,List.getD_eq_getElem?_getD,List.getElem?_eq_getElem h1,List.getElem?_eq_getElem h2] at this;rw[List.getElem_map,List.getElem_map];exact this
theorem QSame.check {q p:QueryV} (h:QSame q p) (ts:List TableD):p.check ts=q.check ts:=by
 unfold QueryV.check;rw[h.src,h.whs,h.group,h.keys,h.sums,h.sel,h.ord]
theorem col_of_all {ts:List TableD} {q:QueryV} {xs:List Int} (h:allB xs (widthN ts q.src.xs)=true):ColOk ts q xs:=fun c hc=>by
 unfold allB at h;rw[List.all_eq_true] at h;have:=h c hc;simp only[Bool.and_eq_true,decide_eq_true_eq] at this;exact this
theorem env_of {ts:List TableD} {q:QueryV} {f:FactsV} {W:World} (hc:q.check ts=0) (hf:f.At ts q W) (hs:ShapesAt W 0) (hk:q.keys.xs.length<=q.keys.cap) (hn:q.keys.ad=none->q.keys.cap=0):Env f ts q W:=by
 obtain⟨c1,c2,c3,c4,c5⟩:=chk_of hc;have hK:allB q.keys.xs (widthN ts q.src.xs)=true/\q.keys.xs.length<=4:=by
  unfold QueryV.check checkN at hc;split at hc
  ·omega
  ·split at hc
   ·omega
   ·rename_i _ hf
    split at hc
    ·rename_i hr
     have h4:=hr.2.2.2;unfold restB at h4;simp only[Bool.and_eq_true] at h4;obtain⟨⟨⟨⟨⟨⟨⟨_,r2⟩,_⟩,_⟩,_⟩,_⟩,_⟩,_⟩:=h4;unfold fullB at hf;rw[Bool.or_eq_true,not_or,decide_eq_true_eq] at hf;exact⟨r2,by omega⟩
    ·omega
 refine⟨c1.ok,hf,hs,c2,c1.five,c1.eight,c3,c4,col_of_all hK.1,fun hg=>?_,hK.2,hk,hn⟩;intro c hm;unfold wantN at hm;rw[List.mem_map] at hm;obtain⟨p,hp,rfl⟩:=hm;have ho:=c3 hg;unfold allB at ho;rw[List.all_eq_true] at ho;have h1:=ho p hp;simp only[Bool.and_eq_true,decide_eq_true_eq] at h1;have hl:p.toNat<q.sel.xs.length:=by omega
 refine col_of_all c5 _ ?_;rw[List.getD_eq_getElem?_getD,List.getElem?_eq_getElem hl];exact List.getElem_mem hl
end Go.Scout
namespace Go.Proofs.YtlpbelhfpoilpabGreatDoor
open Go.RowKit Go.Scout Go.Shelf
theorem scanned_any {F:Nat->Prop} {W0 w:World} {f:FactsV} {ts:List TableD} {q:QueryV} (E:Env f ts q W0) (hz:Fz F W0 w) (s:Int) (h0:0<=s) (h1:s<q.src.xs.length) :
  Calls Tryz.prog 79 #[.agg (f.cells ts q),.int .i64 s] w (TreePost 95 F w (scannedT ts q (concL ts q) s)):=by
 obtain⟨v0,v1,v2,v3,v4,v5,v6,v7,v8,v9,v10,v11,v12,hFC,-⟩:=factsCells f ts q;obtain⟨T0,hT0⟩:∃ t,t=growT ts q (scanK s) []:=⟨_,rfl⟩
 have hok:TOk q T0:=by rw[hT0]; exact growT_ok ts q _ _ ⟨(by decide:(1:Int)<=1),(by decide:(1:Int)<=10)⟩ (fun _=>⟨h0,h1⟩) (smallL_nil _) (fun b hb=>by cases hb)
 have hs64:T0.d.sources<18446744073709551616:=Nat.lt_of_lt_of_le hok.src (Nat.pow_le_pow_right (n:=2) (by omega) E.ok.small);have HGR:Hid (∀ x,Below w.heap.size w x->Calls Tryz.prog 64 #[.agg #[v0,v1,v2,v3,v4,v5,v6,v7,v8,v9,v10,v11,v12],.agg #[.int .i64 1,.int .i64 0,.int .i64 0,.int .i64 s,.slice none 0 0,.int .i64 0,.slice none 0 0],.slice none 0 0] x (TreePost 95 F x T0)):=fun x hx=>by
  rw[<- hFC,hT0];exact grow_none E (hz.next hx) s h0 h1
 have HWI:Hid (∀ x,Below w.heap.size w x->Calls Tryz.prog 108 #[.agg #[v0,v1,v2,v3,v4,v5,v6,v7,v8,v9,v10,v11,v12],.int .u64 (T0.d.sources:Int)] x fun e w'=>e=.returned (.int .u64 ((withinP (concL ts q) T0.d.sources:Nat):Int))/\Below x.heap.size x w'):=fun x hx=>by
  rw[<- hFC];exact withinF_any f ts q _ x E.ok ((E.at' hz).below hx) hs64
 have HFI:Hid (∀ x r,Below w.heap.size w x->TreeF 95 F x r T0->r<x.heap.size->Calls Tryz.prog 65 #[.agg #[v0,v1,v2,v3,v4,v5,v6,v7,v8,v9,v10,v11,v12],.pointer (some (aD r 0)),.int .u64 ((withinP (concL ts q) T0.d.sources:Nat):Int)] x fun e w'=>∃ r',e=.returned (.pointer (some (aD r' 0)))/\TreeF 95 F w' r' (filteredT ts q T0 (withinP (concL ts q) T0.d.sources))/\(r' = r∨x.heap.size<=r')/\r'<w'.heap.size/\Below x.heap.size x w'):=fun x r hx hr hl=>by
  rw[<- hFC];exact filtered_any E (hz.next hx) r T0 hr hok _ (by have:=withinTo_lt (concL ts q) T0.d.sources (concL ts q).length; rw[concL_len] at this; unfold withinP; rw[concL_len]; exact this) hl
 have hR:scannedT ts q (concL ts q) s=filteredT ts q T0 (withinP (concL ts q) T0.d.sources):=by rw[hT0]; rfl
 rw[hR,hFC];clear hFC hR hok hs64 hT0 E hz h0 h1;generalize filteredT ts q T0 (withinP (concL ts q) T0.d.sources)=R at *;generalize withinP (concL ts q) T0.d.sources=wi at *;obtain⟨w1,hw1,hb1,hg1⟩:=newB w #[v0,v1,v2,v3,v4,v5,v6,v7,v8,v9,v10,v11,v12] 79;have a0:w1.cell? (aD w.heap.size 0)=some v0:=hg1.cell 0;have a1:w1.cell? (aD w.heap.size 1)=some v1:=hg1.cell 1;have a2:w1.cell? (aD w.heap.size 2)=some v2:=hg1.cell 2;have a3:w1.cell? (aD w.heap.size 3)=some v3:=hg1.cell 3;have a4:w1.cell? (aD w.heap.size 4)=some v4:=hg1.cell 4;have a5:w1.cell? (aD w.heap.size 5)=some v5:=hg1.cell 5;have a6:w1.cell? (aD w.heap.size 6)=some v6:=hg1.cell 6;have a7:w1.cell? (aD w.heap.size 7)=some v7:=hg1.cell 7;have a8:w1.cell? (aD w.heap.size 8)=some v8:=hg1.cell 8;have a9:w1.cell? (aD w.heap.size 9)=some v9:=hg1.cell 9;have a10:w1.cell? (aD w.heap.size 10)=some v10:=hg1.cell 10;have a11:w1.cell? (aD w.heap.size 11)=some v11:=hg1.cell 11;have a12:w1.cell? (aD w.heap.size 12)=some v12:=hg1.cell 12;have HB1:Hid (Below w.heap.size w w1):=hb1;have hGR:=HGR.out w1 hb1;clear hb1 hg1 HGR;go_enter Tryz.func79,Tryz.ntmps79;go_wp2_with fail;refine hGR.mono ?_;rintro e w2 ⟨r,rfl,hT,hr1,hr2,hb2⟩;clear hGR hw1;have b0:=cB hb2 a0;have b1:=cB hb2 a1;have b2:=cB hb2 a2;have b3:=cB hb2 a3;have b4:=cB hb2 a4;have b5:=cB hb2 a5;have b6:=cB hb2 a6;have b7:=cB hb2 a7;have b8:=cB hb2 a8;have b9:=cB hb2 a9;have b10:=cB hb2 a10;have b11:=cB hb2 a11;have b12:=cB hb2 a12;obtain⟨p,hP,hpd⟩:=hT.partIn;have p1:w2.cell? (aD r 1)=some (.int .u64 (T0.d.sources:Int)):=by
  have:=hP.c1;have e:p.sources=T0.d.sources:=congrArg PartD.sources hpd;rw[e] at this;exact this
 have HT:Hid (TreeF 95 F w2 r T0):=hT;have HR1:Hid _:=hr1;have HR2:Hid _:=hr2;have HB2:Hid (Below w.heap.size w w2):=bQ1 HB1.out hb2;clear hT hr1 hr2 hb2 hP hpd p;clear a0 a1 a2 a3 a4 a5 a6 a7 a8 a9 a10 a11 a12;generalize T0.d.sources=sr at *;go_wp2_with fail;refine wp_region_held_drew (S:=fun x=>Below w2.heap.size w2 x) (by kernel_rfl) ((Below.refl _ _).drew) (fun hS=>?_);refine wT 0 (.agg #[v0,v1,v2,v3,v4,v5,v6,v7,v8,v9,v10,v11,v12]) hS (fun x hx=>?_) ?_
 ·have e0:=cB hx b0;have e1:=cB hx b1;have e2:=cB hx b2;have e3:=cB hx b3;have e4:=cB hx b4;have e5:=cB hx b5;have e6:=cB hx b6;have e7:=cB hx b7;have e8:=cB hx b8;have e9:=cB hx b9;have e10:=cB hx b10;have e11:=cB hx b11;have e12:=cB hx b12;go_simp
 refine wT 1 (.pointer (some (aD r 0))) hS (fun x hx=>?_) ?_
 ·go_simp
 refine wT 2 (.agg #[v0,v1,v2,v3,v4,v5,v6,v7,v8,v9,v10,v11,v12]) hS (fun x hx=>?_) ?_
 ·have e0:=cB hx b0;have e1:=cB hx b1;have e2:=cB hx b2;have e3:=cB hx b3;have e4:=cB hx b4;have e5:=cB hx b5;have e6:=cB hx b6;have e7:=cB hx b7;have e8:=cB hx b8;have e9:=cB hx b9;have e10:=cB hx b10;have e11:=cB hx b11;have e12:=cB hx b12;go_simp
 refine wT 3 (.pointer (some (aD r 0))) hS (fun x hx=>?_) ?_
 ·go_simp
 refine wT 4 (.pointer (some (aD r 0))) hS (fun x hx=>?_) ?_
 ·go_simp
 refine wT 5 (.pointer (some (aD r 0))) hS (fun x hx=>?_) ?_
 ·go_simp
 refine wT 6 (.pointer (some (aD r 1))) hS (fun x hx=>?_) ?_
 ·go_simp
 refine wT 7 (.int .u64 (sr:Int)) hS (fun x hx=>?_) ?_
 ·have e0:=cB hx p1;go_simp
 refine wR 8 fun K hK=>?_
 go_simp;refine Calls.mono (HWI.out _ (bQ1 HB2.out hS)) ?_;rintro e w3 ⟨rfl,hb⟩;refine hK.out _ _ (hS.trans (hb.mono hS.size)) (fun hS=>?_);clear hK K;refine wR 9 fun K hK=>?_
 go_simp;refine Calls.mono (HFI.out _ r (bQ1 HB2.out hS) (HT.out.below hS) (Nat.lt_of_lt_of_le HR2.out hS.size)) ?_;rintro e w4 ⟨r',rfl,hT',hr',hl',hb⟩;have hsz:=hS.size;refine hK.out _ _ (hS.trans (hb.mono hS.size)) (fun hS=>?_);clear hK K;refine wR 10 fun K hK=>?_
 go_simp;refine hK.out _ _ (hS) (fun hS=>?_);clear hK K;refine wpAnyH_done (by kernel_rfl) ?_ _
 try simp only[pA,sB,sC]
 have hRR:w.heap.size<=r':=by
  rcases hr' with h | h
  ·rw[h]; exact Nat.le_trans HB1.out.size HR1.out
  ·exact Nat.le_trans HB2.out.size (Nat.le_trans hsz h)
 have HP:Hid (TreePost 95 F w R (.returned (.pointer (some (aD r' 0)))) w4):=⟨r',rfl,hT',hRR,hl',bQ1 HB2.out hS⟩
 go_wp2;go_ret;exact HP.out
end Go.Proofs.YtlpbelhfpoilpabGreatDoor
namespace Go.Scout
open Go.RowKit
theorem endKind_bd (q:QueryV) (o:List Int):7<=endKindN q o/\endKindN q o<=9:=by
 unfold endKindN;split
 ·omega
 ·split <;> omega
theorem arity_one {k:Int} (h:6<=k):arity k=1:=by
 unfold arity;rw[if_neg (by omega),if_neg (by omega)]
theorem grow_ok1 (ts:List TableD) {q:QueryV} {k:Int} (h1:2<=k) (h10:k<=10) {t:TrD} (h:TOk q t):TOk q (growT ts q (nodeK k) [t]):=
 growT_ok ts q _ _ ⟨by show (1:Int)<=k; omega,h10⟩ (fun e=>by have:k=1:=e; omega) (smallL_nil _) (fun b hb=>by rw[List.mem_singleton] at hb; rw[hb]; exact h)
theorem endedT_ok {ts:List TableD} {q:QueryV} {t:TrD} (h:TOk q t):TOk q (endedT ts q t)/\(endedT ts q t).ns.length<=t.ns.length+2:=by
 have hk:=endKind_bd q t.d.order;have h1:TOk q (growT ts q (nodeK (endKindN q t.d.order)) [t]):=grow_ok1 ts (by omega) (by omega) h;have l1:(growT ts q (nodeK (endKindN q t.d.order)) [t]).ns.length=t.ns.length+1:=growT_len ts q _ (by simp);unfold endedT;simp only;split
 ·exact⟨h1,by omega⟩
 ·refine⟨grow_ok1 ts (by decide) (by decide) h1,?_⟩;have:(growT ts q (nodeK 10) [growT ts q (nodeK (endKindN q t.d.order)) [t]]).ns.length=(growT ts q (nodeK (endKindN q t.d.order)) [t]).ns.length+1:=growT_len ts q _ (by simp);omega
end Go.Scout
