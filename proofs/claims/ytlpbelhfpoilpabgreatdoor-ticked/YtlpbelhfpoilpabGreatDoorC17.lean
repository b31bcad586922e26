import Derived.Test.YtlpbelhfpoilpabGreatDoorC01
import Derived.Test.YtlpbelhfpoilpabGreatDoorC13
import Derived.Test.YtlpbelhfpoilpabGreatDoorC16
set_option linter.all false
set_option maxRecDepth 100000
set_option maxHeartbeats 16000000
namespace Go.Proofs.YtlpbelhfpoilpabGreatDoor
open Go.RowKit Go.Scout Go.Shelf
theorem sorted_any {F:Nat->Prop} {W0 w:World} {f:FactsV} {ts:List TableD} {q:QueryV} (E:Env f ts q W0) (hz:Fz F W0 w) (a:Nat) (t:TrD) (ht:TreeF 95 F w a t) (hto:TOk q t) (o:IntsV) (ho:o.At w) (hof:InF F o.ad o.xs.length) (hon:o.ad=none->o.cap=0) (hoc:o.xs.length<=o.cap) (hol:o.xs.length<=1000) :
  Calls Tryz.prog 126 #[.agg (f.cells ts q),.pointer (some (aD a 0)),o.val] w (TreePost 95 F w (sortedT ts q t o.xs)):=by
 obtain⟨v0,v1,v2,v3,v4,v5,v6,v7,v8,v9,v10,v11,v12,hFC,-⟩:=factsCells f ts q;have HGR:Hid (∀ x b,Below w.heap.size w x->x.cell? (aD b 0)=some (.pointer (some (aD a 0)))->Calls Tryz.prog 64 #[.agg #[v0,v1,v2,v3,v4,v5,v6,v7,v8,v9,v10,v11,v12],.agg #[.int .i64 6,.int .i64 0,.int .i64 0,.int .i64 0,.slice none 0 0,.int .i64 0,o.val],.slice (some (aD b 0)) 1 1] x (TreePost 95 F x (sortedT ts q t o.xs))):=fun x b hx hc=>by
  rw[<- hFC];exact grow_one E (hz.next hx) ⟨6,0,0,0,nilV,0,o⟩ ⟨nilV_at x,InF.nil _ _,fun _=>rfl,IntsAt.below hx ho,hof,hon,hoc,Nat.zero_le _,hol⟩ a b t (ht.below hx) hto hc rfl (by decide:(2:Int)<=6) (by decide:(6:Int)<=10) (smallL_nil _)
 rw[hFC];clear hFC E hz ht hto ho hof hon hoc hol;generalize sortedT ts q t o.xs=R at *;obtain⟨oa,oc,ox⟩:=o;simp only[IntsV.val] at *;obtain⟨w1,hw1,hb1,hg1⟩:=newB w #[v0,v1,v2,v3,v4,v5,v6,v7,v8,v9,v10,v11,v12] 79;have a0:w1.cell? (aD w.heap.size 0)=some v0:=hg1.cell 0;have a1:w1.cell? (aD w.heap.size 1)=some v1:=hg1.cell 1;have a2:w1.cell? (aD w.heap.size 2)=some v2:=hg1.cell 2;have a3:w1.cell? (aD w.heap.size 3)=some v3:=hg1.cell 3;have a4:w1.cell? (aD w.heap.size 4)=some v4:=hg1.cell 4;have a5:w1.cell? (aD w.heap.size 5)=some v5:=hg1.cell 5;have a6:w1.cell? (aD w.heap.size 6)=some v6:=hg1.cell 6;have a7:w1.cell? (aD w.heap.size 7)=some v7:=hg1.cell 7;have a8:w1.cell? (aD w.heap.size 8)=some v8:=hg1.cell 8;have a9:w1.cell? (aD w.heap.size 9)=some v9:=hg1.cell 9;have a10:w1.cell? (aD w.heap.size 10)=some v10:=hg1.cell 10;have a11:w1.cell? (aD w.heap.size 11)=some v11:=hg1.cell 11;have a12:w1.cell? (aD w.heap.size 12)=some v12:=hg1.cell 12;obtain⟨w2,hw2⟩:∃ x,w1.alloc (.cells #[.pointer (some (aD a 0))] 85)=x:=⟨_,rfl⟩
 have hb2:Below w.heap.size w w2:=bQ1 hb1 (by rw[<- hw2]; exact bQ2 _ _);have hGR:=HGR.out w2 w1.heap.size hb2 (by rw[<- hw2]; simp);have HB2:Hid _:=hb2;clear hb1 hb2 hg1 HGR;go_enter Tryz.func126,Tryz.ntmps126;go_wp2_with fail;refine hGR.mono ?_;rintro e w3 ⟨r,rfl,hT,hr1,hr2,hb3⟩;have HP:Hid (TreePost 95 F w R (.returned (.pointer (some (aD r 0)))) w3):=⟨r,rfl,hT,Nat.le_trans HB2.out.size hr1,hr2,bQ1 HB2.out hb3⟩
 clear hGR hT hr1 hr2 hb3 hw1 hw2;go_wp2;go_ret;exact HP.out
theorem filtered_any {F:Nat->Prop} {W0 w:World} {f:FactsV} {ts:List TableD} {q:QueryV} (E:Env f ts q W0) (hz:Fz F W0 w) (a:Nat) (t:TrD) (ht:TreeF 95 F w a t) (hto:TOk q t) (c:Nat) (hc:c<2 ^ q.wh.length) (hal:a<w.heap.size) :
  Calls Tryz.prog 65 #[.agg (f.cells ts q),.pointer (some (aD a 0)),.int .u64 (c:Int)] w fun e w'=>∃ r,e=.returned (.pointer (some (aD r 0)))/\TreeF 95 F w' r (filteredT ts q t c)/\(r=a∨w.heap.size<=r)/\r<w'.heap.size/\Below w.heap.size w w':=by
 by_cases hc0:c=0
 ·subst hc0;have HT:Hid (TreeF 95 F w a (filteredT ts q t 0)):=by
   unfold filteredT;rw[if_pos rfl];exact ht
  clear ht hto hc hz E;generalize filteredT ts q t 0=R at *;obtain⟨v0,v1,v2,v3,v4,v5,v6,v7,v8,v9,v10,v11,v12,hFC,-⟩:=factsCells f ts q;rw[hFC];clear hFC;have HAL:Hid _:=hal;clear hal;obtain⟨w1,hw1⟩:∃ x,w.alloc (.cells #[v0,v1,v2,v3,v4,v5,v6,v7,v8,v9,v10,v11,v12] 79)=x:=⟨_,rfl⟩
  have HB1:Hid (Below w.heap.size w w1):=by show Below _ _ _; rw[<- hw1]; exact bQ2 _ _
  go_enter Tryz.func65,Tryz.ntmps65;go_wp2;go_ret;exact⟨a,rfl,HT.out.below HB1.out,.inl rfl,Nat.lt_of_lt_of_le HAL.out HB1.out.size,HB1.out⟩
 have hR:filteredT ts q t c=growT ts q (filtK (risI c)) [t]:=by unfold filteredT; rw[if_neg hc0]
 have hcb:(((c:Nat):Int)==0)=false:=by
  rw[Bool.eq_false_iff];intro h;exact hc0 (by have:=eq_of_beq h; omega)
 rw[hR];have hc64:c<18446744073709551616:=Nat.lt_of_lt_of_le hc (Nat.pow_le_pow_right (n:=2) (by omega) E.ok.whs);obtain⟨v0,v1,v2,v3,v4,v5,v6,v7,v8,v9,v10,v11,v12,hFC,-⟩:=factsCells f ts q;have HLI:Hid (∀ x,Calls Tryz.prog 80 #[.int .u64 (c:Int)] x fun e w'=>∃ v,e=.returned v/\w'.ownsRow x.heap.size 3 1 v (risI c).length ((risI c).map (Value.int .i64))/\Below x.heap.size x w'):=fun x=>list_any c hc64 x
 have HLL:Hid ((risI c).length<=64):=by
  show _<=_
  unfold risI risingN;rw[List.length_map];exact Nat.le_trans (List.length_filter_le _ _) (by simp)
 have HGR:Hid (∀ x b (iv:IntsV),Below w.heap.size w x->(iv.xs=risI c/\iv.At x/\InF F iv.ad iv.xs.length/\(iv.ad=none->iv.cap=0))->x.cell? (aD b 0)=some (.pointer (some (aD a 0)))->Calls Tryz.prog 64 #[.agg #[v0,v1,v2,v3,v4,v5,v6,v7,v8,v9,v10,v11,v12],.agg #[.int .i64 2,.int .i64 0,.int .i64 0,.int .i64 0,iv.val,.int .i64 0,.slice none 0 0],.slice (some (aD b 0)) 1 1] x (TreePost 95 F x (growT ts q (filtK (risI c)) [t]))):=fun x b iv hx hi hcell=>by
  rw[<- hFC,<- hi.1];exact grow_one E (hz.next hx) ⟨2,0,0,0,iv,0,nilV⟩ ⟨hi.2.1,hi.2.2.1,hi.2.2.2,nilV_at x,InF.nil _ _,fun _=>rfl,Nat.le_refl _,(by rw[hi.1]; have:=HLL.out; omega),Nat.zero_le _⟩ a b t (ht.below hx) hto hcell rfl (by decide:(2:Int)<=2) (by decide:(2:Int)<=10) (by rw[hi.1]; exact risI_small hc)
 have HNEW:Hid (∀ b,w.heap.size<=b->F b):=hz.high;rw[hFC];clear hFC E hz ht hto hc hR hc0 hc64;generalize growT ts q (filtK (risI c)) [t]=R at *;generalize risI c=L at *;obtain⟨w1,hw1,hb1,hg1⟩:=newB w #[v0,v1,v2,v3,v4,v5,v6,v7,v8,v9,v10,v11,v12] 79;have a0:w1.cell? (aD w.heap.size 0)=some v0:=hg1.cell 0;have a1:w1.cell? (aD w.heap.size 1)=some v1:=hg1.cell 1;have a2:w1.cell? (aD w.heap.size 2)=some v2:=hg1.cell 2;have a3:w1.cell? (aD w.heap.size 3)=some v3:=hg1.cell 3;have a4:w1.cell? (aD w.heap.size 4)=some v4:=hg1.cell 4;have a5:w1.cell? (aD w.heap.size 5)=some v5:=hg1.cell 5;have a6:w1.cell? (aD w.heap.size 6)=some v6:=hg1.cell 6;have a7:w1.cell? (aD w.heap.size 7)=some v7:=hg1.cell 7;have a8:w1.cell? (aD w.heap.size 8)=some v8:=hg1.cell 8;have a9:w1.cell? (aD w.heap.size 9)=some v9:=hg1.cell 9;have a10:w1.cell? (aD w.heap.size 10)=some v10:=hg1.cell 10;have a11:w1.cell? (aD w.heap.size 11)=some v11:=hg1.cell 11;have a12:w1.cell? (aD w.heap.size 12)=some v12:=hg1.cell 12;have HB1:Hid (Below w.heap.size w w1):=hb1;clear hb1 hg1;go_enter Tryz.func65,Tryz.ntmps65;go_wp2_with fail;clear hw1;refine wp_region_held_drew (S:=fun x=>Below w1.heap.size w1 x) (by kernel_rfl) ((Below.refl _ _).drew) (fun hS=>?_);refine wT 0 (.agg #[v0,v1,v2,v3,v4,v5,v6,v7,v8,v9,v10,v11,v12]) hS (fun x hx=>?_) ?_
 ·have e0:=cB hx a0;have e1:=cB hx a1;have e2:=cB hx a2;have e3:=cB hx a3;have e4:=cB hx a4;have e5:=cB hx a5;have e6:=cB hx a6;have e7:=cB hx a7;have e8:=cB hx a8;have e9:=cB hx a9;have e10:=cB hx a10;have e11:=cB hx a11;have e12:=cB hx a12;go_simp
 refine wT 1 (.int .u64 (c:Int)) hS (fun x hx=>?_) ?_
 ·go_simp
 refine wT 4 (.pointer (some (aD a 0))) hS (fun x hx=>?_) ?_
 ·go_simp
 refine wpAnyH_ready (rs:=[2,5]) (by kernel_rfl) (by simp) ?_;refine AllReadyH.cons rfl (fun K hK=>?_) (AllReadyH.cons rfl (fun K hK=>?_) AllReadyH.nil)
 ·skip;go_simp;refine Calls.mono (HLI.out _) ?_;rintro e w4 ⟨v,rfl,hv,hb⟩;obtain⟨iv,hiv,hxs,hat,hnew⟩:=ints_ownR hv (by have:=HLL.out; omega);obtain⟨la,lc,lx⟩:=iv;simp only[IntsV.val] at hiv hxs hat hnew;subst hxs;subst hiv;have hS4:=hS.trans (hb.mono hS.size);have hnewF:InF F la lx.length:=fun _ a' e=>HNEW.out _ (Nat.le_trans HB1.out.size (Nat.le_trans hS.size (hnew.1 a' e)))
  refine hK.out _ _ hS4 (fun hS=>?_);clear hK K;refine wT 3 (.agg #[.int .i64 2,.int .i64 0,.int .i64 0,.int .i64 0,.slice la lx.length lc,.int .i64 0,.slice none 0 0]) hS (fun x hx=>?_) ?_
  ·go_simp
  refine wR 5 fun K hK=>?_
  go_simp;refine hK.out _ _ (hS.trans (bQ2 _ _ |>.mono hS.size)) (fun hS=>?_);clear hK K;have hba:=bQ2 w4 (.cells #[.pointer (some (aD a 0))] 85);have hSx:=hS.size;refine wR 6 fun K hK=>?_
  go_simp;refine Calls.mono (HGR.out _ _ ⟨la,lc,lx⟩ (bQ1 HB1.out hS) ⟨rfl,IntsAt.below hba hat,hnewF,hnew.2.1⟩ (by simp)) ?_;rintro e w5 ⟨r,rfl,hT,hr1,hr2,hb5⟩;refine hK.out _ _ (hS.trans (hb5.mono hS.size)) (fun hS=>?_);clear hK K;refine wR 7 fun K hK=>?_
  go_simp;refine hK.out _ _ (hS) (fun hS=>?_);clear hK K;refine wpAnyH_done (by kernel_rfl) ?_ _
  try simp only[Act.put,List.getElem_toArray,List.getElem_cons_succ,List.getElem_cons_zero,List.setIfInBounds_toArray,List.set_cons_succ,List.set_cons_zero]
  have HP:Hid (∃ r',Ending.returned (.pointer (some (aD r 0)))=.returned (.pointer (some (aD r' 0)))/\TreeF 95 F w5 r' R/\(r' = a∨w.heap.size<=r')/\r'<w5.heap.size/\Below w.heap.size w w5):=⟨r,rfl,hT,.inr (Nat.le_trans HB1.out.size (Nat.le_trans hSx hr1)),hr2,bQ1 HB1.out hS⟩
  go_wp2;go_ret;exact HP.out
 ·skip;go_simp;refine hK.out _ _ (hS.trans (bQ2 _ _ |>.mono hS.size)) (fun hS=>?_);clear hK K;refine wR 2 fun K hK=>?_
  go_simp;refine Calls.mono (HLI.out _) ?_;rintro e w4 ⟨v,rfl,hv,hb⟩;obtain⟨iv,hiv,hxs,hat,hnew⟩:=ints_ownR hv (by have:=HLL.out; omega);obtain⟨la,lc,lx⟩:=iv;simp only[IntsV.val] at hiv hxs hat hnew;subst hxs;subst hiv;have hS4:=hS.trans (hb.mono hS.size);have hnewF:InF F la lx.length:=fun _ a' e=>HNEW.out _ (Nat.le_trans HB1.out.size (Nat.le_trans hS.size (hnew.1 a' e)))
  have hcl:=cB hb (show _=some (Value.pointer (some (aD a 0))) from (heap_cell0 (bQ3 _ (.cells #[.pointer (some (aD a 0))] 85))));refine hK.out _ _ hS4 (fun hS=>?_);clear hK K;have hba:=Below.refl w4.heap.size w4;have hSx:=hS.size;refine wT 3 (.agg #[.int .i64 2,.int .i64 0,.int .i64 0,.int .i64 0,.slice la lx.length lc,.int .i64 0,.slice none 0 0]) hS (fun x hx=>?_) ?_
  ·go_simp
  refine wR 6 fun K hK=>?_
  go_simp;refine Calls.mono (HGR.out _ _ ⟨la,lc,lx⟩ (bQ1 HB1.out hS) ⟨rfl,IntsAt.below hba hat,hnewF,hnew.2.1⟩ (hcl)) ?_;rintro e w5 ⟨r,rfl,hT,hr1,hr2,hb5⟩;refine hK.out _ _ (hS.trans (hb5.mono hS.size)) (fun hS=>?_);clear hK K;refine wR 7 fun K hK=>?_
  go_simp;refine hK.out _ _ (hS) (fun hS=>?_);clear hK K;refine wpAnyH_done (by kernel_rfl) ?_ _
  try simp only[Act.put,List.getElem_toArray,List.getElem_cons_succ,List.getElem_cons_zero,List.setIfInBounds_toArray,List.set_cons_succ,List.set_cons_zero]
  have HP:Hid (∃ r',Ending.returned (.pointer (some (aD r 0)))=.returned (.pointer (some (aD r' 0)))/\TreeF 95 F w5 r' R/\(r' = a∨w.heap.size<=r')/\r'<w5.heap.size/\Below w.heap.size w w5):=⟨r,rfl,hT,.inr (Nat.le_trans HB1.out.size (Nat.le_trans hSx hr1)),hr2,bQ1 HB1.out hS⟩
  go_wp2;go_ret;exact HP.out
end Go.Proofs.YtlpbelhfpoilpabGreatDoor
namespace Go.Scout
open Go.RowKit
theorem Fz.kept' {F:Nat->Prop} {W0 w w':World} (h:Fz F W0 w) {s:Nat->Prop} (hk:Kept s w w') (hs:∀ b,Live W0 b->s b):Fz F W0 w':=
 ⟨h.below.kept hk hs,h.low,fun b hb=>h.high b (Nat.le_trans hk.size hb)⟩
theorem Fz.not_low {F:Nat->Prop} {W0 w:World} (h:Fz F W0 w) {g:Nat} (hg:¬ F g):∀ b,Live W0 b->b≠g:=fun b hb e=>hg (e ▸ h.low b hb)
theorem headP_get {g:List PlaceD} {t:TrD} (h:headP g=some t):∃ x,(g.getD 0 plz).2=some x/\x.2=t:=by
 match g,h with
 | [],h => cases h
 | (_,none)::_,h => cases h
 | (o,some y)::r,h => injection h with h; exact⟨y,rfl,h⟩
theorem cell_keepP {w w':World} {s:Nat->Prop} (hk:Kept s w w') {b o:Nat} {v:Value} (h:w.cell? (aD b o)=some v) (hs:s b):w'.cell? (aD b o)=some v:=by
 rw[World.cell?_of_block (hk.block b (cell_lt h) hs)];exact h
end Go.Scout
namespace Go.Proofs.YtlpbelhfpoilpabGreatDoor
open Go.RowKit Go.Scout Go.Shelf
theorem improve_any {F:Nat->Prop} {W0 w:World} {f:FactsV} {ts:List TableD} {q:QueryV} (E:Env f ts q W0) (hz:Fz F W0 w) {gb:Nat} {A:Nat->Nat} {os:List IntsV} {g:List PlaceD} (h:GrpAt 95 141 F w gb A os g) (hF:¬ F gb) {s:Nat} (hgo:GOk q s g) (gc:Nat) (hgc:g.length<=gc) (hcm:gc<=9223372036854775807) (bo:Option Addr) (bc:Nat) (bs:List (Nat × TrD)) (hp:PtrsAt w bo (bs.map Prod.fst)) (hpo:∀ a,bo=some a->a.block≠gb) (hbs:∀ x∈bs,TreeF 95 F w x.1 x.2) (hnd:(bs.map Prod.fst).Nodup) (hfr:∀ p∈g,∀ x,p.2=some x->A x.1 ∉ bs.map Prod.fst) (hl:bs.length<=1000) (htin:∀ x∈bs,TIn q s x.2) :
  Calls Tryz.prog 106 #[.slice (some (aD gb 0)) g.length gc,.agg (f.cells ts q),.slice bo bs.length bc] w fun e w'=>e=.returned (.bool (improveN ts q g (bs.map Prod.snd)).1)/\(∃ A',GrpAt 95 141 F w' gb A' os (improveN ts q g (bs.map Prod.snd)).2)/\Kept (fun b=>b≠gb) w w':=by
 obtain⟨v0,v1,v2,v3,v4,v5,v6,v7,v8,v9,v10,v11,v12,hFC,-⟩:=factsCells f ts q;have hgl:g.length<=20:=hgo.short;have hg0:0<g.length:=by obtain⟨hh,r,rfl,-⟩:=hgo.head; simp
 obtain⟨w1,hw1,hb1,hg1⟩:=newB w #[v0,v1,v2,v3,v4,v5,v6,v7,v8,v9,v10,v11,v12] 79;have hpl:∀ a,0<bs.length->bo=some a->a.block<w.heap.size:=fun a h0 e=>hp.2.lt (by rw[List.length_map]; exact h0) a e
 have hOF:=offer_any (h.below hb1) hF hgl gc bo bc bs (hp.below hb1) hpo (fun x hx=>(hbs x hx).below hb1) hnd hfr hl;have hok1:=offerN_ok (l:=bs.map Prod.snd) (x:=(false,g)) hgo (fun t ht=>by obtain⟨x,hx,rfl⟩:=List.mem_map.1 ht; exact htin x hx) (fun e=>by cases e);have hfst:=offerN_fst g (bs.map Prod.snd);have HR:Hid (improveN ts q g (bs.map Prod.snd)=if (offerN g (bs.map Prod.snd)).1=true then (true,((g.map Prod.fst).drop 1).foldl (resortS ts q) (offerN g (bs.map Prod.snd)).2) else (false,(offerN g (bs.map Prod.snd)).2)):=rfl;change GOk q s (offerN g (bs.map Prod.snd)).2/\((offerN g (bs.map Prod.snd)).1=true->(headP (offerN g (bs.map Prod.snd)).2).isSome=true) at hok1;generalize improveN ts q g (bs.map Prod.snd)=R at *;generalize offerN g (bs.map Prod.snd)=O at *;obtain⟨O1,O2⟩:=O;obtain⟨R1,R2⟩:=R;simp only at *;have hO2l:O2.length=g.length:=by have:=congrArg List.length hfst; simpa using this
 have HLT:Hid (gb<w.heap.size):=h.lt;have HG1:Hid (GB w1 w.heap.size 79 #[v0,v1,v2,v3,v4,v5,v6,v7,v8,v9,v10,v11,v12]):=hg1;have HB1:Hid (Below w.heap.size w w1):=hb1;have HZ1:Hid (Fz F W0 w1):=hz.next hb1;have HNL:Hid (∀ b,Live W0 b->b≠gb):=hz.not_low hF
 cases O1 with
 | false =>
  have HR2:Hid (R1=false/\R2=O2):=by have:=HR.out; rw[if_neg (by simp)] at this; injection this with e1 e2; exact⟨e1,e2⟩
  clear HR h hok1 hz E hpl hp hbs hfr htin hg1 hb1;rw[hFC];go_enter Tryz.func106,Tryz.ntmps106;go_wp2_with fail;refine hOF.mono ?_;rintro e w2 ⟨rfl,hA2,hk2⟩;have HF:Hid ((∃ A',GrpAt 95 141 F w2 gb A' os R2)/\Kept (fun b=>b≠gb) w w2):=⟨by rw[HR2.out.2]; exact hA2,(Kept.of_below HB1.out (fun _ h _=>h)).trans hk2⟩
  clear hOF hA2 hk2 hw1;go_wp2;go_ret;exact⟨by rw[HR2.out.1]; rfl,HF.out⟩
 | true =>
  have HR2:Hid (R1=true/\R2=((g.map Prod.fst).drop 1).foldl (resortS ts q) O2):=by have:=HR.out; rw[if_pos rfl] at this; injection this with e1 e2; exact⟨e1,e2⟩
  obtain⟨RK,hRK⟩:∃ X:Nat->List PlaceD,X=fun k=>(((g.map Prod.fst).drop 1).take k).foldl (resortS ts q) O2:=⟨_,rfl⟩
  have hdl:((g.map Prod.fst).drop 1).length=g.length-1:=by rw[List.length_drop,List.length_map]
  have HST:Hid (∀ k,k<g.length-1->RK (k+1)=resortS ts q (RK k) (((g.map Prod.fst).drop 1).getD k [])):=fun k hk=>by rw[hRK]; exact foldl_takeR _ O2 _ [] (by rw[hdl]; exact hk)
  have HOK:Hid (∀ k,GOk q s (RK k)/\(headP (RK k)).isSome=true/\(RK k).length=g.length/\(RK k).map Prod.fst=g.map Prod.fst):=fun k=>by
   have h1:=resorts_ok (ts:=ts) (os:=((g.map Prod.fst).drop 1).take k) hok1.1 (hok1.2 rfl);have h2:=resorts_fst ts q (((g.map Prod.fst).drop 1).take k) O2;rw[hRK];refine⟨h1.1,h1.2,?_,h2.trans hfst⟩;have:=congrArg List.length (h2.trans hfst)
   simpa using this
  have HRE:Hid (RK (g.length-1)=R2):=by
   show _=_
   rw[hRK,HR2.out.2]
   show (((g.map Prod.fst).drop 1).take (g.length-1)).foldl _ _=_
   rw[<- hdl,List.take_length]
  have HR0:Hid (RK 0=O2):=by show _=_; rw[hRK]; rfl
  have HOR:Hid (∀ k,k<g.length-1->((g.map Prod.fst).drop 1).getD k []=(g.getD (k+1) plz).1):=fun k hk=>by
   rw[List.getD_eq_getElem?_getD,List.getElem?_drop,List.getElem?_map,List.getD_eq_getElem?_getD,Nat.add_comm 1 k,List.getElem?_eq_getElem (by omega)];rfl
  have HSO:Hid (∀ (x:World) (k a:Nat) (t:TrD) (o:IntsV),Fz F W0 x->TreeF 95 F x a t->TOk q t->IntsIn F x o->o.xs.length<=1000->Calls Tryz.prog 126 #[.agg #[v0,v1,v2,v3,v4,v5,v6,v7,v8,v9,v10,v11,v12],.pointer (some (aD a 0)),.slice o.ad o.xs.length o.cap] x (TreePost 95 F x (sortedT ts q t o.xs))):=fun x k a t o hx ht hto ho hol=>by
   rw[<- hFC];exact sorted_any E hx a t ht hto o ho.at' ho.inf ho.nil ho.cap hol
  have HFG:Hid (∀ b,F b->b≠gb):=fun b hb e=>hF (e ▸ hb)
  have HNF:Hid (¬ F gb):=hF;have HHI:Hid (∀ b,w.heap.size<=b->F b):=hz.high;clear HR h hok1 hz E hpl hp hbs hfr htin hg1 hb1 hRK hdl hO2l hfst hF hpo hnd;rw[hFC];clear hFC;obtain⟨gl,hgl'⟩:∃ gl,gl=g.length:=⟨_,rfl⟩
  rw[<- hgl'] at HST HRE HOR hOF hgl hg0 hgc ⊢;have HGL:Hid (gl=g.length):=hgl';clear hgl';obtain⟨m,hm⟩:∃ m,gl=m+1:=⟨gl-1,by omega⟩
  subst hm;rw[Nat.add_sub_cancel] at HST HRE HOR;have hgc1:1<=gc:=by omega
  obtain⟨A0,hA0,HA0⟩:∃ A0:Addr,(if gc=1 then some ((aD gb 0):Addr) else some (aD gb 2))=some A0/\Hid (0<m->A0=(aD gb 2)):=by
   by_cases h1:gc=1
   ·exact⟨(aD gb 0),by rw[if_pos h1],fun h=>by omega⟩
   ·exact⟨(aD gb 2),by rw[if_neg h1],fun _=>rfl⟩
  go_enter Tryz.func106,Tryz.ntmps106;go_wp2_with fail;refine hOF.mono ?_;rintro e w2 ⟨rfl,⟨A2,hA2⟩,hk2⟩;have HA2:Hid (GrpAt 95 141 F w2 gb A2 os (RK 0)):=by show GrpAt _ _ _ _ _ _ _ _; rw[HR0.out]; exact hA2
  have HK2:Hid (Kept (fun b=>b≠gb) w1 w2):=hk2;clear hOF hA2 hk2 hw1;go_wp2;clear hA0;go_loopw [16] (fun iv wr=>∃ (k:Nat) (Ak:Nat->Nat),k<=m/\iv=.int .i64 (k:Int)/\Hid (GrpAt 95 141 F wr gb Ak os (RK k))/\Hid (Kept (fun b=>b≠gb) w1 wr)) (fun iv _=>m-(intOf iv).toNat)
  case atStart=>exact⟨0,A2,Nat.zero_le _,rfl,HA2.out,HK2.out⟩
  case round=>
   obtain⟨k,Ak,hk,rfl,HGK,HKK⟩:=hrel;by_cases hlt:k<m
   ·have hA2:=HA0.out (by omega);subst hA2;have HOKk:=HOK.out k;have hcc:=HGK.out.cells (i:=k+1) (by rw[HOKk.2.2.1,<- HGL.out]; omega);have hoo:=HGK.out.ord (k+1) (by rw[HOKk.2.2.1,<- HGL.out]; omega);have hfk:((RK k).getD (k+1) plz).1=(g.getD (k+1) plz).1:=by
     have h1:k+1<(RK k).length:=by rw[HOKk.2.2.1,<- HGL.out]; omega
     have h2:k+1<g.length:=by rw[<- HGL.out]; omega
     have:=congrArg (fun l=>l.getD (k+1) []) HOKk.2.2.2;simp only[List.getD_eq_getElem?_getD,List.getElem?_map,List.getElem?_eq_getElem h1,List.getElem?_eq_getElem h2] at this ⊢;exact this
    have HSk:=HST.out k hlt;rw[HOR.out k hlt,<- hfk,<- hoo.1] at HSk;obtain⟨t,ht⟩:=Option.isSome_iff_exists.1 HOKk.2.1;obtain⟨y,hy,hyt⟩:=headP_get ht;have hty:=HGK.out.tree _ (getD_memP (g:=RK k) (i:=0) (by rw[HOKk.2.2.1,<- HGL.out]; omega)) y hy;rw[hyt] at hty;have htok:TOk q t:=(HOKk.1.first ht).1;have hAP:=fun x (hx:Kept (fun b=>b≠gb) wr x) (hgx:GrpAt 95 141 F x gb Ak os (RK k))=>anyPiece_any hgx (by rw[HOKk.2.2.1,<- HGL.out]; omega) gc
    rw[HOKk.2.2.1,<- HGL.out,hy] at hAP;have HAP:Hid (∀ x,Below wr.heap.size wr x->Calls Tryz.prog 128 #[.slice (some (aD gb 0)) (m+1) gc] x fun e w'=>e=.returned (.pointer (some (aD (Ak y.1) 0)))/\w' = x):=fun x hx=>hAP x (Kept.of_below hx (fun _ h _=>h)) (HGK.out.below hx)
    obtain⟨ov,hov⟩:∃ ov,ov=os.getD (k+1) nilV:=⟨_,rfl⟩
    rw[<- hov] at hcc hoo HSk;have HZr:Hid (Fz F W0 wr):=HZ1.out.kept' HKK.out HNL.out;have HSOk:Hid (∀ x,Below wr.heap.size wr x->Calls Tryz.prog 126 #[.agg #[v0,v1,v2,v3,v4,v5,v6,v7,v8,v9,v10,v11,v12],.pointer (some (aD (Ak y.1) 0)),.slice ov.ad ov.xs.length ov.cap] x (TreePost 95 F x (sortedT ts q t ov.xs))):=fun x hx=>HSO.out x k (Ak y.1) t ov (HZr.out.next hx) (hty.below hx) htok (hoo.2.1.below hx) hoo.2.2
    have HNX:Hid (RK (k+1)=offer1 (RK k) (sortedT ts q t ov.xs)):=by
     show _=_
     rw[HSk];unfold resortS;rw[ht];rfl
    have HOFk:Hid (∀ x r c,Below wr.heap.size wr x->wr.heap.size<=r->c≠gb->x.cell? (aD c 0)=some (.pointer (some (aD r 0)))->TreeF 95 F x r (sortedT ts q t ov.xs)->Calls Tryz.prog 127 #[.slice (some (aD gb 0)) (m+1) gc,.slice (some (aD c 0)) 1 1] x fun e w'=>(∃ b,e=.returned (.bool b))/\(∃ A',GrpAt 95 141 F w' gb A' os (RK (k+1)))/\Kept (fun b=>b≠gb) x w'):=fun x r c hx hr hc hcell htr=>by
     have h1:=offer_any (HGK.out.below hx) HNF.out (by rw[HOKk.2.2.1,<- HGL.out]; exact hgl) gc (some (aD c 0)) 1 [(r,sortedT ts q t ov.xs)] ⟨by simp,fun i hi=>⟨c,0,rfl,by
      have:i=0:=by simpa using hi
      subst this;exact hcell⟩⟩ (fun a e=>by injection e with e; rw[<- e]; exact hc) (fun z hz=>by rw[List.mem_singleton] at hz; rw[hz]; exact htr) (by simp) (fun p hp z hz hm=>by
       rw[List.map_singleton,List.mem_singleton] at hm;have:=(HGK.out.tree p hp z hz).lt;rw[hm] at this;omega) (by simp)
     rw[HOKk.2.2.1,<- HGL.out] at h1;refine h1.mono ?_;rintro e w' ⟨rfl,h2,h3⟩;rw[HNX.out];exact⟨⟨_,rfl⟩,h2,h3⟩
    have g0:wr.cell? (aD gb (2+k*2))=some (.slice ov.ad ov.xs.length ov.cap):=by rw[show 2+k*2=(k+1)*2 by omega]; exact hcc.1
    obtain⟨po,hpo⟩:∃ po,ptrV Ak ((RK k).getD (k+1) plz).2=.pointer po:=by
     cases ((RK k).getD (k+1) plz).2 with
     | none => exact⟨_,rfl⟩
     | some y => exact⟨_,rfl⟩
    have g1:wr.cell? (aD gb (2+k*2+1))=some (.pointer po):=by rw[show 2+k*2+1=(k+1)*2+1 by omega,<- hpo]; exact hcc.2
    have hfb:GB wr w.heap.size 79 #[v0,v1,v2,v3,v4,v5,v6,v7,v8,v9,v10,v11,v12]:=HG1.out.keep HKK.out (by have:=HLT.out; omega);generalize Ak y.1=ar at *;generalize ov.xs.length=ovl at *;generalize ov.ad=ova at *;generalize ov.cap=ovc at *;generalize sortedT ts q t ov.xs=TT at *;have HFB:Hid _:=hfb;clear hcc hoo hfk HSk ht hy hyt hty htok hAP hov hpo HOKk;obtain⟨wq,hwq⟩:∃ x,x=wr:=⟨_,rfl⟩
    subst hwq;obtain⟨w3,hw3⟩:∃ x,wq.alloc (.cells #[.slice ova ovl ovc,.pointer po] 141)=x:=⟨_,rfl⟩
    have hb3:Below wq.heap.size wq w3:=by rw[<- hw3]; exact bQ2 _ _
    have p0:w3.cell? (aD wq.heap.size 0)=some (.slice ova ovl ovc):=by rw[<- hw3]; simp
    have hg3:GB w3 w.heap.size 79 #[v0,v1,v2,v3,v4,v5,v6,v7,v8,v9,v10,v11,v12]:=hfb.keep (Kept.of_below (s:=fun b=>b<wq.heap.size) hb3 (fun _ h _=>h)) hfb.lt;have a0:w3.cell? (aD w.heap.size 0)=some v0:=hg3.cell 0;have a1:w3.cell? (aD w.heap.size 1)=some v1:=hg3.cell 1;have a2:w3.cell? (aD w.heap.size 2)=some v2:=hg3.cell 2;have a3:w3.cell? (aD w.heap.size 3)=some v3:=hg3.cell 3;have a4:w3.cell? (aD w.heap.size 4)=some v4:=hg3.cell 4;have a5:w3.cell? (aD w.heap.size 5)=some v5:=hg3.cell 5;have a6:w3.cell? (aD w.heap.size 6)=some v6:=hg3.cell 6;have a7:w3.cell? (aD w.heap.size 7)=some v7:=hg3.cell 7;have a8:w3.cell? (aD w.heap.size 8)=some v8:=hg3.cell 8;have a9:w3.cell? (aD w.heap.size 9)=some v9:=hg3.cell 9;have a10:w3.cell? (aD w.heap.size 10)=some v10:=hg3.cell 10;have a11:w3.cell? (aD w.heap.size 11)=some v11:=hg3.cell 11;have a12:w3.cell? (aD w.heap.size 12)=some v12:=hg3.cell 12;have HB3:Hid (Below wq.heap.size wq w3):=hb3;have HX3:Hid (w.heap.size<wq.heap.size):=hfb.lt;clear hb3 hfb hg3;go_wp2_with fail;clear hw3;have HNE:Hid (w.heap.size≠gb):=by show _≠_; have:=HLT.out; omega
    have HNP:Hid (wq.heap.size≠gb):=by show _≠_; have:=HLT.out; have:=HX3.out; omega
    refine wp_region_held_drew (S:=fun x=>Kept (fun b=>b≠gb) w3 x) (by kernel_rfl) (Kept.of_below ((Below.refl w3.heap.size w3).drew) (fun _ hl _=>hl)) (fun hS=>?_);refine wT 0 (.slice (some (aD gb 0)) (m+1) gc) hS (fun x hx=>?_) ?_
    ·go_simp
    refine wT 1 (.agg #[v0,v1,v2,v3,v4,v5,v6,v7,v8,v9,v10,v11,v12]) hS (fun x hx=>?_) ?_
    ·have e0:=cell_keepP hx a0 HNE.out;have e1:=cell_keepP hx a1 HNE.out;have e2:=cell_keepP hx a2 HNE.out;have e3:=cell_keepP hx a3 HNE.out;have e4:=cell_keepP hx a4 HNE.out;have e5:=cell_keepP hx a5 HNE.out;have e6:=cell_keepP hx a6 HNE.out;have e7:=cell_keepP hx a7 HNE.out;have e8:=cell_keepP hx a8 HNE.out;have e9:=cell_keepP hx a9 HNE.out;have e10:=cell_keepP hx a10 HNE.out;have e11:=cell_keepP hx a11 HNE.out;have e12:=cell_keepP hx a12 HNE.out;go_simp
    refine wT 2 (.slice (some (aD gb 0)) (m+1) gc) hS (fun x hx=>?_) ?_
    ·go_simp
    refine wT 4 (.pointer (some (aD wq.heap.size 0))) hS (fun x hx=>?_) ?_
    ·go_simp
    refine wT 5 (.slice ova ovl ovc) hS (fun x hx=>?_) ?_
    ·have e0:=cell_keepP hx p0 HNP.out;go_simp
    refine wR 3 fun K hK=>?_
    go_simp;refine Calls.mono (HAP.out _ HB3.out.drew) ?_;rintro e w4 ⟨rfl,hw4⟩;subst hw4;refine hK.out _ _ hS (fun hS=>?_);clear hK K;refine wR 6 fun K hK=>?_
    go_simp;refine Calls.mono (HSOk.out _ HB3.out.drew) ?_;rintro e w5 ⟨r,rfl,hT,hr1,hr2,hb5⟩;have hb35:Below w3.heap.size w3 w5:=(Below.refl w3.heap.size w3).drew.trans hb5;refine hK.out _ _ (Kept.of_below hb35 (fun _ h _=>h)) (fun hS=>?_);clear hK K;refine wR 7 fun K hK=>?_
    go_simp;refine hK.out _ _ (hS.trans (Kept.alloc _ _)) (fun hS=>?_);clear hK K;refine wR 8 fun K hK=>?_
    go_simp;refine Calls.mono (HOFk.out _ r _ (HB3.out.trans ((hb35.trans ((bQ2 _ _).mono hb35.size)).mono HB3.out.size)) (Nat.le_trans HB3.out.size hr1) (by have:=HLT.out; have:=HX3.out; have:=HB3.out.size; have:=hb35.size; omega) (by simp) (hT.below (bQ2 _ _))) ?_;rintro e w6 ⟨⟨bb,rfl⟩,hA6,hk6⟩;refine hK.out _ _ (hS.trans hk6) (fun hS=>?_);clear hK K;refine wpAnyH_done (by kernel_rfl) ?_ _
    try simp only[Act.put,List.getElem_toArray,List.getElem_cons_succ,List.getElem_cons_zero,List.setIfInBounds_toArray,List.set_cons_succ,List.set_cons_zero]
    try simp only[Act.put,List.getElem_toArray,List.getElem_cons_succ,List.getElem_cons_zero,List.setIfInBounds_toArray,List.set_cons_succ,List.set_cons_zero]
    have HF:Hid ((∃ A',GrpAt 95 141 F w6 gb A' os (RK (k+1)))/\Kept (fun b=>b≠gb) w1 w6):=⟨hA6,HKK.out.trans ((Kept.of_below HB3.out (fun _ h _=>h)).trans hS)⟩
    clear hS hA6 a0 a1 a2 a3 a4 a5 a6 a7 a8 a9 a10 a11 a12 p0 g0 g1 HAP HSOk HOFk;go_wp2;go_roundw
    case rel=>obtain⟨⟨A',hA'⟩,hk'⟩:=HF.out; exact⟨k+1,A',by omega,by go_num,hA',hk'⟩
    case measure=>simp[intOf]; omega
   ·have hkm:m=k:=by omega
    have HF:Hid ((∃ A',GrpAt 95 141 F wr gb A' os R2)/\Kept (fun b=>b≠gb) w wr):=by
     refine⟨⟨Ak,?_⟩,(Kept.of_below HB1.out (fun _ h _=>h)).trans HKK.out⟩;have:=HGK.out;rw[<- hkm,HRE.out] at this;exact this
    clear hkm;go_wp2;go_ret;exact⟨by rw[HR2.out.1]; rfl,HF.out⟩
end Go.Proofs.YtlpbelhfpoilpabGreatDoor
