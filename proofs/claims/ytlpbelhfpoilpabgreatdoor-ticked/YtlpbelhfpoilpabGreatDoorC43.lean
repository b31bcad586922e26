import Derived.Conc.LoneSelect
import Derived.Test.YtlpbelhfpoilpabGreatDoorC01
import Derived.Test.YtlpbelhfpoilpabGreatDoorC12
import Derived.Test.YtlpbelhfpoilpabGreatDoorC23
import Derived.Test.YtlpbelhfpoilpabGreatDoorC42
set_option linter.all false
set_option maxRecDepth 100000
set_option maxHeartbeats 16000000
namespace Go.Scout
open Go.RowKit
theorem GOk.pos {q:QueryV} {s:Nat} {g:List PlaceD} (h:GOk q s g):0<g.length:=by
 obtain⟨hh,r,rfl,-⟩:=h.head;simp
end Go.Scout
namespace Go.Proofs.YtlpbelhfpoilpabGreatDoor
open Go.RowKit Go.Scout Go.Shelf
theorem keep_imp {W0:World} {f:FactsV} {ts:List TableD} {q:QueryV} (E:Env f ts q W0) {X M:Nat->Prop} {w:World} {sb:Nat} {L:SeL} {σ:SeD} (h:SeAt W0 f ts q X M w sb L σ) (hc:SCore q σ) (hal:σ.agenda.length<=900000) (s:Nat) (hs1:s<2 ^ q.src.xs.length-1) (bo:Option Addr) (bc:Nat) (bs:List (Nat × TrD)) (hp:PtrsAt w bo (bs.map Prod.fst)) (hpo:∀ a,bo=some a->¬ M a.block) (hbs:∀ x∈bs,TreeF 95 (fun b=>¬ X b) w x.1 x.2) (hnd:(bs.map Prod.fst).Nodup) (hfr:∀ p∈σ.groups.getD s [],∀ x,p.2=some x->L.A s x.1 ∉ bs.map Prod.fst) (hl:bs.length<=1000) (htin:∀ x∈bs,TIn q s x.2) :
  Calls Tryz.prog 78 #[.pointer (some (aD sb 0)),.int .u64 (s:Int),.slice bo bs.length bc] w fun e w'=>(∃ v,e=.returned v)/\SePost W0 f ts q X M w sb (keepN rkN ts q s (bs.map Prod.snd) σ) w':=by
 obtain⟨v0,v1,v2,v3,v4,v5,v6,v7,v8,v9,v10,v11,v12,hFC,-,-,-,-,-,-,-,-,hv8,-⟩:=factsCells f ts q;have hsg:s<σ.groups.length:=by rw[hc.glen]; exact hs1
 have h32:2 ^ q.src.xs.length<=32:=Nat.pow_le_pow_right (n:=2) (by omega) E.five;have hgl31:σ.groups.length<=31:=by rw[hc.glen]; omega
 obtain⟨hG1,hG2,hG3,hG4⟩:=h.grp s hsg;have hgo:=hc.grp s hsg;have hgb:=h.cells hFC;have hgc:=h.gcell s hsg;have hne:=h.ne;have HKN:Hid (keepN rkN ts q s (bs.map Prod.snd) σ = { σ with groups:=σ.groups.set s (improveN ts q (σ.groups.getD s []) (bs.map Prod.snd)).2,agenda:=if (improveN ts q (σ.groups.getD s []) (bs.map Prod.snd)).1=true then reopenN rkN s (σ.groups.set s (improveN ts q (σ.groups.getD s []) (bs.map Prod.snd)).2) σ.agenda else σ.agenda }):=by
  show _=_
  unfold keepN;rw[if_neg (by omega)]
 have himp:=improveN_ok (ts:=ts) hgo (l:=bs.map Prod.snd) (fun t ht=>by obtain⟨x,hx,rfl⟩:=List.mem_map.1 ht; exact htin x hx);have hlen:(improveN ts q (σ.groups.getD s []) (bs.map Prod.snd)).2.length=(σ.groups.getD s []).length:=by have:=congrArg List.length himp.2.2; simpa using this
 have HIM:Hid (∀ x,Below w.heap.size w x->Calls Tryz.prog 106 #[.slice (some (aD (L.gb s) 0)) (σ.groups.getD s []).length (L.gcp s),.agg #[v0,v1,v2,v3,v4,v5,v6,v7,v8,v9,v10,v11,v12],.slice bo bs.length bc] x fun e w'=>e=.returned (.bool (improveN ts q (σ.groups.getD s []) (bs.map Prod.snd)).1)/\(∃ A',GrpAt 95 141 (fun b=>¬ X b) w' (L.gb s) A' (L.os s) (improveN ts q (σ.groups.getD s []) (bs.map Prod.snd)).2)/\Kept (fun b=>b≠L.gb s) x w'):=fun x hx=>by
  rw[<- hFC];exact improve_any E (h.hz.next hx) (hG1.below hx) (fun hn=>hn (h.sub _ hG2)) hgo (L.gcp s) hG3 hG4 bo bc bs (hp.below hx) (fun a e e'=>hpo a e (e' ▸ hG2)) (fun y hy=>(hbs y hy).below hx) hnd hfr hl htin
 have HGRP:Hid (∀ (x:World) (A':Nat->Nat),Kept (fun b=>b≠L.gb s) w x->GrpAt 95 141 (fun b=>¬ X b) x (L.gb s) A' (L.os s) (improveN ts q (σ.groups.getD s []) (bs.map Prod.snd)).2->SeAt W0 f ts q X M x sb { L with A:=fun k=>if k=s then A' else L.A k } { σ with groups:=σ.groups.set s (improveN ts q (σ.groups.getD s []) (bs.map Prod.snd)).2 }):=fun x A' hk hg=>h.group hsg hk hg hlen
 have HRE:Hid (∀ (x:World) (L':SeL),SeAt W0 f ts q X M x sb L' { σ with groups:=σ.groups.set s (improveN ts q (σ.groups.getD s []) (bs.map Prod.snd)).2 }->Calls Tryz.prog 107 #[.pointer (some (aD sb 0)),.int .u64 (s:Int)] x fun e w'=>(∃ v,e=.returned v)/\SePost W0 f ts q X M x sb { σ with groups:=σ.groups.set s (improveN ts q (σ.groups.getD s []) (bs.map Prod.snd)).2,agenda:=reopenN rkN s (σ.groups.set s (improveN ts q (σ.groups.getD s []) (bs.map Prod.snd)).2) σ.agenda } w'):=fun x L' hx=>
  reopen_any hx s (by omega) (by show (σ.groups.set _ _).length<=31; rw[List.length_set]; exact hgl31) (fun k hk=>by
   show 0<((σ.groups.set s _).getD k []).length
   have hk':k<σ.groups.length:=by have hk:k<(σ.groups.set s _).length:=hk; rwa [List.length_set] at hk
   rw[getD_setG];split
   ·rw[hlen]; exact hgo.pos
   ·exact (hc.grp k hk').pos) (fun t ht=>(hc.task t ht).small E.five hgl31) hal
 have HMG:Hid (∀ b,¬ M b->b≠L.gb s):=fun b hb e=>hb (e ▸ hG2)
 have HNE:Hid (sb≠L.gb s/\L.gs≠L.gb s):=⟨fun e=>(hne.2.2.2 s hsg).1 e.symm,fun e=>h.gsx (e ▸ h.sub _ hG2)⟩
 have hsS:¬ ((s:Int)=((2 ^ q.src.xs.length-1:Nat):Int)):=by omega
 have hc8:w.cell? (aD sb 8)=some (.int .u64 ((2 ^ q.src.xs.length-1:Nat):Int)):=by rw[<- hv8]; exact hgb.cell 8
 have c13:w.cell? (aD sb 13)=some (.slice (some (aD L.gs 0)) σ.groups.length L.gcap):=hgb.cell 13;have HGBX:Hid (GB w sb 87 #[v0,v1,v2,v3,v4,v5,v6,v7,v8,v9,v10,v11,v12,.slice (some (aD L.gs 0)) σ.groups.length L.gcap,L.av,.bool σ.cut,.pointer (some (aD L.best 0)),L.pv,.int .i64 σ.status]):=hgb;have hsn:(s:Int)<(σ.groups.length:Int):=by omega
 generalize keepN rkN ts q s (bs.map Prod.snd) σ=KN at *;generalize improveN ts q (σ.groups.getD s []) (bs.map Prod.snd)=IM at *;obtain⟨I1,I2⟩:=IM;simp only at HKN HIM HGRP HRE;generalize hSS:2 ^ q.src.xs.length-1=SS at *;generalize (σ.groups.getD s []).length=ggl at *;generalize L.gb s=ggb at *;generalize L.gcp s=ggc at *;generalize L.gs=ggs at *;generalize hgn:σ.groups.length=gn at *;generalize L.gcap=gcp0 at *;clear h hc hal hp hpo hbs hnd hfr hl htin hsg h32 hgl31 hG1 hG2 hG3 hG4 hgo hgb hne himp hlen hFC hv8 hSS hgn hs1 E;go_enter Tryz.func78,Tryz.ntmps78;go_wp2_with fail;have hgb:=HGBX.out;have a0:w.cell? (aD sb 0)=some v0:=hgb.cell 0;have a1:w.cell? (aD sb 1)=some v1:=hgb.cell 1;have a2:w.cell? (aD sb 2)=some v2:=hgb.cell 2;have a3:w.cell? (aD sb 3)=some v3:=hgb.cell 3;have a4:w.cell? (aD sb 4)=some v4:=hgb.cell 4;have a5:w.cell? (aD sb 5)=some v5:=hgb.cell 5;have a6:w.cell? (aD sb 6)=some v6:=hgb.cell 6;have a7:w.cell? (aD sb 7)=some v7:=hgb.cell 7;have a8:w.cell? (aD sb 8)=some v8:=hgb.cell 8;have a9:w.cell? (aD sb 9)=some v9:=hgb.cell 9;have a10:w.cell? (aD sb 10)=some v10:=hgb.cell 10;have a11:w.cell? (aD sb 11)=some v11:=hgb.cell 11;have a12:w.cell? (aD sb 12)=some v12:=hgb.cell 12;clear hgb;refine wp_region_held_drew (S:=fun x=>Kept (fun b=>b≠ggb) w x) (by kernel_rfl) (Kept.of_below ((Below.refl w.heap.size w).drew) (fun _ hl _=>hl)) (fun hS=>?_);refine wT 0 (.pointer (some (aD sb 0))) hS (fun x hx=>?_) ?_
 ·go_simp
 refine wT 1 (.pointer (some (aD sb 0))) hS (fun x hx=>?_) ?_
 ·go_simp
 refine wT 2 (.pointer (some (aD sb 13))) hS (fun x hx=>?_) ?_
 ·go_simp
 refine wT 3 (.slice (some (aD ggs 0)) gn gcp0) hS (fun x hx=>?_) ?_
 ·have e0:=cell_keepP hx c13 HNE.out.1;go_simp
 refine wT 4 (.int .u64 (s:Int)) hS (fun x hx=>?_) ?_
 ·go_simp
 refine wT 5 (.pointer (some (aD ggs s))) hS (fun x hx=>?_) ?_
 ·go_simp
 refine wT 6 (.slice (some (aD ggb 0)) ggl ggc) hS (fun x hx=>?_) ?_
 ·have e0:=cell_keepP hx hgc HNE.out.2;go_simp
 refine wT 7 (.pointer (some (aD sb 0))) hS (fun x hx=>?_) ?_
 ·go_simp
 refine wT 8 (.pointer (some (aD sb 0))) hS (fun x hx=>?_) ?_
 ·go_simp
 refine wT 9 (.pointer (some (aD sb 0))) hS (fun x hx=>?_) ?_
 ·go_simp
 refine wT 10 (.agg #[v0,v1,v2,v3,v4,v5,v6,v7,v8,v9,v10,v11,v12]) hS (fun x hx=>?_) ?_
 ·have e0:=cell_keepP hx a0 HNE.out.1;have e1:=cell_keepP hx a1 HNE.out.1;have e2:=cell_keepP hx a2 HNE.out.1;have e3:=cell_keepP hx a3 HNE.out.1;have e4:=cell_keepP hx a4 HNE.out.1;have e5:=cell_keepP hx a5 HNE.out.1;have e6:=cell_keepP hx a6 HNE.out.1;have e7:=cell_keepP hx a7 HNE.out.1;have e8:=cell_keepP hx a8 HNE.out.1;have e9:=cell_keepP hx a9 HNE.out.1;have e10:=cell_keepP hx a10 HNE.out.1;have e11:=cell_keepP hx a11 HNE.out.1;have e12:=cell_keepP hx a12 HNE.out.1;go_simp
 refine wT 11 (.slice bo bs.length bc) hS (fun x hx=>?_) ?_
 ·go_simp
 refine wR 12 fun K hK=>?_
 go_simp;refine Calls.mono (HIM.out _ ((Below.refl w.heap.size w).drew)) ?_;rintro e w2 ⟨rfl,hA2,hk2⟩;refine hK.out _ _ (hS.trans hk2) (fun hS=>?_);clear hK K;refine wR 13 fun K hK=>?_
 go_simp;refine hK.out _ _ (hS) (fun hS=>?_);clear hK K;refine wpAnyH_done (by kernel_rfl) ?_ _
 try simp only[Act.put,List.getElem_toArray,List.getElem_cons_succ,List.getElem_cons_zero,List.setIfInBounds_toArray,List.set_cons_succ,List.set_cons_zero]
 try simp only[Act.put,List.getElem_toArray,List.getElem_cons_succ,List.getElem_cons_zero,List.setIfInBounds_toArray,List.set_cons_succ,List.set_cons_zero]
 obtain⟨A',hA'⟩:=hA2;have hk02:Kept (fun b=>b≠ggb) w w2:=hS;have hAt:=HGRP.out w2 A' hk02 hA';have HAT:Hid _:=hAt;have HK2:Hid (Kept (fun b=>¬ M b) w w2):=hk02.mono fun b _ hb=>HMG.out b hb
 cases I1 with
 | false =>
  have HF:Hid (SePost W0 f ts q X M w sb KN w2):=by
   rw[HKN.out];exact⟨_,hAt.post HK2.out⟩
  clear hS hA' hk02 hAt a0 a1 a2 a3 a4 a5 a6 a7 a8 a9 a10 a11 a12 hgc c13 hc8;go_wp2;go_end0;exact⟨⟨_,rfl⟩,HF.out⟩
 | true =>
  have hRE:=HRE.out w2 _ hAt;clear hS hA' hk02 hAt a0 a1 a2 a3 a4 a5 a6 a7 a8 a9 a10 a11 a12 hgc c13 hc8;go_wp2_with fail;refine hRE.mono ?_;rintro e w3 ⟨⟨rv,rfl⟩,hp3⟩;have HF:Hid (SePost W0 f ts q X M w sb KN w3):=by
   rw[HKN.out];exact SePost.trans HK2.out (fun _ h=>h) (fun _ h=>.inl h) (fun b=>⟨fun h=>.inl h,fun h=>by
    rcases h with h | h
    ·exact h
    ·exact HAT.out.sub b h⟩) hp3
  clear hRE hp3;go_wp2;go_end0;exact⟨⟨_,rfl⟩,HF.out⟩
theorem keep_any {W0:World} {f:FactsV} {ts:List TableD} {q:QueryV} (E:Env f ts q W0) {X M:Nat->Prop} {w:World} {sb:Nat} {L:SeL} {σ:SeD} (h:SeAt W0 f ts q X M w sb L σ) (hc:SCore q σ) (hal:σ.agenda.length<=900000) (s:Nat) (hs1:s<2 ^ q.src.xs.length) (bo:Option Addr) (bc:Nat) (bs:List (Nat × TrD)) (hp:PtrsAt w bo (bs.map Prod.fst)) (hpo:∀ a,bo=some a->¬ M a.block) (hbs:∀ x∈bs,TreeF 95 (fun b=>¬ X b) w x.1 x.2) (hnd:(bs.map Prod.fst).Nodup) (hfr:∀ k,k<σ.groups.length->∀ p∈σ.groups.getD k [],∀ x,p.2=some x->L.A k x.1 ∉ bs.map Prod.fst) (hl:bs.length<=1000) (htin:∀ x∈bs,TIn q s x.2) :
  Calls Tryz.prog 78 #[.pointer (some (aD sb 0)),.int .u64 (s:Int),.slice bo bs.length bc] w fun e w'=>(∃ v,e=.returned v)/\SePost W0 f ts q X M w sb (keepN rkN ts q s (bs.map Prod.snd) σ) w':=by
 by_cases hs:s=2 ^ q.src.xs.length-1
 ·subst hs;refine (keep_best E h bo bc bs hp (fun a e e'=>hpo a e (e' ▸ h.msb)) hbs (fun x hx=>(htin x hx).ok) hl).mono ?_;rintro e w' ⟨hv,L',hA,hk⟩;refine⟨hv,L',?_⟩;have e1:keepN rkN ts q (2 ^ q.src.xs.length-1) (bs.map Prod.snd) σ = { σ with best:=(bs.map Prod.snd).foldl (bestS ts q) σ.best }:=by unfold keepN; rw[if_pos rfl]
  rw[e1];exact hA.post hk
 ·exact keep_imp E h hc hal s (by omega) bo bc bs hp hpo hbs hnd (hfr s (by rw[hc.glen]; omega)) hl htin
end Go.Proofs.YtlpbelhfpoilpabGreatDoor
namespace Go.Scout
open Go.RowKit
theorem facts13 {x:World} {sb:Nat} {t:TypeId} {v0 v1 v2 v3 v4 v5 v6 v7 v8 v9 v10 v11 v12:Value} {T:Array Value} (h:GB x sb t (#[v0,v1,v2,v3,v4,v5,v6,v7,v8,v9,v10,v11,v12]++T)):x.cell? (aD sb 0)=some v0/\x.cell? (aD sb 1)=some v1/\x.cell? (aD sb 2)=some v2/\x.cell? (aD sb 3)=some v3/\x.cell? (aD sb 4)=some v4/\x.cell? (aD sb 5)=some v5/\x.cell? (aD sb 6)=some v6/\x.cell? (aD sb 7)=some v7/\x.cell? (aD sb 8)=some v8/\x.cell? (aD sb 9)=some v9/\x.cell? (aD sb 10)=some v10/\x.cell? (aD sb 11)=some v11/\x.cell? (aD sb 12)=some v12:=by
 exact⟨(h.cell 0).trans (Array.getElem?_append_left (by simp)),(h.cell 1).trans (Array.getElem?_append_left (by simp)),(h.cell 2).trans (Array.getElem?_append_left (by simp)),(h.cell 3).trans (Array.getElem?_append_left (by simp)),(h.cell 4).trans (Array.getElem?_append_left (by simp)),(h.cell 5).trans (Array.getElem?_append_left (by simp)),(h.cell 6).trans (Array.getElem?_append_left (by simp)),(h.cell 7).trans (Array.getElem?_append_left (by simp)),(h.cell 8).trans (Array.getElem?_append_left (by simp)),(h.cell 9).trans (Array.getElem?_append_left (by simp)),(h.cell 10).trans (Array.getElem?_append_left (by simp)),(h.cell 11).trans (Array.getElem?_append_left (by simp)),(h.cell 12).trans (Array.getElem?_append_left (by simp))⟩
theorem rising_nodup {bs:List (Nat × TrD)} (h:(bs.map Prod.fst).Pairwise (· < ·)):(bs.map Prod.fst).Nodup:=h.imp fun hab=>Nat.ne_of_lt hab
theorem joinsT_len (ts:List TableD) (q:QueryV) (conc:List Nat) (h8:conc.length<=8) (a b:List PlaceD) (ha:a.length<=20):(joinsT ts q conc a b).length<=340:=by
 have hp:(piecesN a).length<=20:=Nat.le_trans (by have:=pieces_len a []; simpa [piecesN] using this) ha;unfold joinsT;have key:∀ l:List (Nat × TrD),(l.flatMap fun x=>joinedT ts q conc x.2 b).length<=17*l.length:=by
  intro l
  induction l with
  | nil => simp
  | cons x l ih =>
   rw[List.flatMap_cons,List.length_append,List.length_cons];have:=(joinedT_len ts q conc x.2 b h8).2;omega
 exact Nat.le_trans (key _) (by omega)
end Go.Scout
namespace Go.Proofs.YtlpbelhfpoilpabGreatDoor
open Go.RowKit Go.Scout Go.Shelf
theorem SeAt.old {W0:World} {f:FactsV} {ts:List TableD} {q:QueryV} {X M:Nat->Prop} {w:World} {sb:Nat} {L:SeL} {σ:SeD} (h:SeAt W0 f ts q X M w sb L σ) {k:Nat} (hk:k<σ.groups.length) {p:PlaceD} (hp:p∈σ.groups.getD k []) {y:Nat × TrD} (hy:p.2=some y):L.A k y.1<w.heap.size:=((h.grp k hk).1.tree p hp y hy).lt
theorem do_scan {W0:World} {f:FactsV} {ts:List TableD} {q:QueryV} (E:Env f ts q W0) {X M:Nat->Prop} {w:World} {sb:Nat} {L:SeL} {σ:SeD} (h:SeAt W0 f ts q X M w sb L σ) (hc:SCore q σ) (hal:σ.agenda.length<=900000) (i:Nat) (hi:i<q.src.xs.length) :
  Calls Tryz.prog 49 #[.pointer (some (aD sb 0)),.agg #[.int .u64 ((2 ^ i:Nat):Int),.int .u64 0]] w fun e w'=>(∃ v,e=.returned v)/\SePost W0 f ts q X M w sb (doN rkN ts q (concL ts q) (2 ^ i,0) σ) w':=by
 obtain⟨v0,v1,v2,v3,v4,v5,v6,v7,v8,v9,v10,v11,v12,hFC,-⟩:=factsCells f ts q;have h5:=E.five;have hp32:2 ^ i<2 ^ q.src.xs.length:=Nat.pow_lt_pow_right (by omega) hi;have hb32:2 ^ q.src.xs.length<=32:=Nat.pow_le_pow_right (n:=2) (by omega) h5;have HD:Hid (doN rkN ts q (concL ts q) (2 ^ i,0) σ=keepN rkN ts q (2 ^ i) [scannedT ts q (concL ts q) (i:Int)] σ):=by
  show _=_
  unfold doN;rw[if_pos rfl,risI_bit i (by omega)]
 have hsc:=scannedT_ok ts q (conc:=concL ts q) (concL_len ts q) (s:=(i:Int)) (by omega) (by omega);have hpos:0<2 ^ i:=Nat.pow_pos (by omega);have hrl:0<(risI (2 ^ i)).length/\(risI (2 ^ i)).length<=64:=by
  refine⟨?_,risI_len _⟩;have:i=0∨i=1∨i=2∨i=3∨i=4:=by omega
  rcases this with rfl | rfl | rfl | rfl | rfl <;> decide
 have HLI:Hid (∀ x,Calls Tryz.prog 80 #[.int .u64 ((2 ^ i:Nat):Int)] x fun e w'=>∃ v,e=.returned v/\w'.ownsRow x.heap.size 3 1 v (risI (2 ^ i)).length ((risI (2 ^ i)).map (Value.int .i64))/\Below x.heap.size x w'):=fun x=>list_any (2 ^ i) (by omega) x
 have HR0:Hid ((risI (2 ^ i)).getD 0 0=(i:Int)):=risI_bit i (by omega);have HSC:Hid (∀ x,Below w.heap.size w x->Calls Tryz.prog 79 #[.agg #[v0,v1,v2,v3,v4,v5,v6,v7,v8,v9,v10,v11,v12],.int .i64 (i:Int)] x (TreePost 95 (fun b=>¬ X b) x (scannedT ts q (concL ts q) (i:Int)))):=fun x hx=>by
  rw[<- hFC];exact scanned_any E (h.hz.next hx) (i:Int) (by omega) (by omega)
 have HKE:Hid (∀ (x:World) (c r:Nat),Below w.heap.size w x->w.heap.size<=r->w.heap.size<=c->x.cell? (aD c 0)=some (.pointer (some (aD r 0)))->TreeF 95 (fun b=>¬ X b) x r (scannedT ts q (concL ts q) (i:Int))->Calls Tryz.prog 78 #[.pointer (some (aD sb 0)),.int .u64 ((2 ^ i:Nat):Int),.slice (some (aD c 0)) 1 1] x fun e w'=>(∃ v,e=.returned v)/\SePost W0 f ts q X M x sb (doN rkN ts q (concL ts q) (2 ^ i,0) σ) w'):=fun x c r hx hr hcc hcell ht=>by
  rw[HD.out];exact keep_any E (h.below hx) hc hal (2 ^ i) hp32 (some (aD c 0)) 1 [(r,scannedT ts q (concL ts q) (i:Int))] ⟨by simp,fun j hj=>⟨c,0,rfl,by
   have:j=0:=by simpa using hj
   subst this;exact hcell⟩⟩ (fun a e hm=>by injection e with e; rw[<- e] at hm; have:=(h.lt (h.sub _ hm)).2; show False; exact absurd hcc (by show ¬ w.heap.size<=c; have h2:c<w.heap.size:=this; omega)) (fun y hy=>by rw[List.mem_singleton] at hy; rw[hy]; exact ht) (by simp) (fun k hk p hp y hy hm=>by
    rw[List.map_singleton,List.mem_singleton] at hm;have:=h.old hk hp hy;omega) (by simp) (fun y hy=>by rw[List.mem_singleton] at hy; rw[hy]; exact⟨hsc.1,hsc.2.1,by have:=hsc.2.2; show (scannedT ts q (concL ts q) (i:Int)).ns.length+3<=5*2 ^ i; omega⟩)
 have HAT:Hid (SeAt W0 f ts q X M w sb L σ):=h;have HFC:Hid _:=hFC;have hgb0:=h.blk;rw[hFC] at hgb0;have HSUB:Hid (∀ b,w.heap.size<=b->¬ M b):=fun b hb hm=>by have:=(h.lt (h.sub _ hm)).2; omega
 have hIS:∀ x,Calls Tryz.prog 77 #[.agg #[.int .u64 ((2 ^ i:Nat):Int),.int .u64 0]] x fun e w'=>e=.returned (.bool true)/\Below x.heap.size x w':=fun x=>isScan_any (2 ^ i) 0 x
 clear h hc hal hi h5 hp32 hb32 HD hsc hpos E hFC;generalize doN rkN ts q (concL ts q) (2 ^ i,0) σ=DN at *;generalize scannedT ts q (concL ts q) (i:Int)=ST at *;generalize risI (2 ^ i)=RL at *;obtain⟨tl,htl⟩:∃ n,n=2 ^ i:=⟨_,rfl⟩
 rw[<- htl] at HLI HKE hIS ⊢;clear htl;obtain⟨T,hT⟩:∃ T,T=tailC L σ:=⟨_,rfl⟩
 rw[<- hT] at hgb0;have HGB:Hid (GB w sb 87 (#[v0,v1,v2,v3,v4,v5,v6,v7,v8,v9,v10,v11,v12]++T)):=hgb0;clear hgb0 hT;obtain⟨w1,hw1,hb1,hx1⟩:=newB w #[.int .u64 (tl:Int),.int .u64 0] 111;have t0:w1.cell? (aD w.heap.size 0)=some (.int .u64 (tl:Int)):=hx1.cell 0;have t1:w1.cell? (aD w.heap.size 1)=some (.int .u64 0):=hx1.cell 1;have HB1:Hid (Below w.heap.size w w1):=hb1;have HG1:Hid (GB w1 sb 87 (#[v0,v1,v2,v3,v4,v5,v6,v7,v8,v9,v10,v11,v12]++T)):=HGB.out.keep (Kept.of_below (s:=fun b=>b<w.heap.size) hb1 (fun _ h _=>h)) HGB.out.lt;have hIS1:=hIS w1;clear hb1 hx1 hIS;go_enter Tryz.func49,Tryz.ntmps49;go_wp2_with fail;refine hIS1.mono ?_;rintro e w2 ⟨rfl,hb2⟩;clear hIS1 hw1;have s0:=cB hb2 t0;have HB2:Hid (Below w.heap.size w w2):=bQ1 HB1.out hb2;have HG2:Hid (GB w2 sb 87 (#[v0,v1,v2,v3,v4,v5,v6,v7,v8,v9,v10,v11,v12]++T)):=HG1.out.keep (Kept.of_below (s:=fun b=>b<w1.heap.size) hb2 (fun _ h _=>h)) HG1.out.lt;clear hb2 t0 t1;go_wp2_with fail;refine wp_region_held_drew (S:=fun x=>Kept (fun b=>¬ M b) w2 x/\∃ T,GB x sb 87 (#[v0,v1,v2,v3,v4,v5,v6,v7,v8,v9,v10,v11,v12]++T)) (by kernel_rfl) ⟨Kept.of_below ((Below.refl w2.heap.size w2).drew) (fun _ hl _=>hl),_,HG2.out⟩ (fun hS=>?_);refine wT 0 (.pointer (some (aD sb 0))) hS (fun x hx=>?_) ?_
 ·go_simp
 refine wT 1 (.pointer (some (aD w.heap.size 0))) hS (fun x hx=>?_) ?_
 ·go_simp
 refine wT 2 (.int .u64 (tl:Int)) hS (fun x hx=>?_) ?_
 ·have e0:=cell_keepP hx.1 s0 (HSUB.out _ (Nat.le_refl _));go_simp
 refine wT 3 (.pointer (some (aD sb 0))) hS (fun x hx=>?_) ?_
 ·go_simp
 refine wT 4 (.pointer (some (aD sb 0))) hS (fun x hx=>?_) ?_
 ·go_simp
 refine wT 5 (.pointer (some (aD sb 0))) hS (fun x hx=>?_) ?_
 ·go_simp
 refine wT 6 (.agg #[v0,v1,v2,v3,v4,v5,v6,v7,v8,v9,v10,v11,v12]) hS (fun x hx=>?_) ?_
 ·obtain⟨T2,hT2⟩:=hx.2;obtain⟨e0,e1,e2,e3,e4,e5,e6,e7,e8,e9,e10,e11,e12⟩:=facts13 hT2;go_simp
 refine wT 7 (.pointer (some (aD w.heap.size 0))) hS (fun x hx=>?_) ?_
 ·go_simp
 refine wT 8 (.int .u64 (tl:Int)) hS (fun x hx=>?_) ?_
 ·have e0:=cell_keepP hx.1 s0 (HSUB.out _ (Nat.le_refl _));go_simp
 refine wR 9 fun K hK=>?_
 go_simp;refine Calls.mono (HLI.out _) ?_;rintro e w3 ⟨v,rfl,hv,hb3⟩;have hb23:Below w2.heap.size w2 w3:=(Below.refl w2.heap.size w2).drew.trans hb3;obtain⟨iv,hiv,hivx,hivat,-⟩:=ints_ownR hv (by omega);obtain⟨ja,jc,jx⟩:=iv;simp only[IntsV.val] at hiv hivx hivat;subst hivx;subst hiv;obtain⟨jb,joff,rfl,hjc⟩:=CellsAt.get hivat.2 hrl.1;have j0:=hjc 0 hrl.1;rw[Nat.add_zero,HR0.out] at j0;have HG3:Hid (GB w3 sb 87 (#[v0,v1,v2,v3,v4,v5,v6,v7,v8,v9,v10,v11,v12]++T)):=HG2.out.keep (Kept.of_below (s:=fun b=>b<w2.heap.size) hb23 (fun _ h _=>h)) HG2.out.lt;have hjl:(0:Int)<(jx.length:Int):=by omega
 refine hK.out _ _ ⟨Kept.of_below hb23 (fun _ h _=>h),_,HG3.out⟩ (fun hS=>?_);clear hK K hv hivat hjc;refine wR 10 fun K hK=>?_
 go_simp;refine hK.out _ _ (hS) (fun hS=>?_);clear hK K;refine wR 11 fun K hK=>?_
 go_simp;refine hK.out _ _ (hS) (fun hS=>?_);clear hK K;refine wR 12 fun K hK=>?_
 go_simp;refine Calls.mono (HSC.out _ (bQ1 HB2.out hb23)) ?_;rintro e w4 ⟨r,rfl,hTr,hr1,hr2,hb4⟩;have hb24:Below w2.heap.size w2 w4:=bQ1 hb23 hb4;refine hK.out _ _ ⟨Kept.of_below hb24 (fun _ h _=>h),_,HG2.out.keep (Kept.of_below (s:=fun b=>b<w2.heap.size) hb24 (fun _ h _=>h)) HG2.out.lt⟩ (fun hS=>?_);clear hK K;refine wR 13 fun K hK=>?_
 go_simp;obtain⟨w6,hw6⟩:∃ x,x=w4.alloc (.cells #[.pointer (some (aD r 0))] 85):=⟨_,rfl⟩
 have hb46:Below w4.heap.size w4 w6:=by rw[hw6]; exact bQ2 _ _
 have hb26:Below w2.heap.size w2 w6:=bQ1 hb24 hb46;have c6:w6.cell? (aD w4.heap.size 0)=some (.pointer (some (aD r 0))):=by rw[hw6]; simp
 rw[<- hw6];clear hw6;have HB6:Hid (Below w.heap.size w w6):=bQ1 HB2.out hb26;refine hK.out _ _ ⟨Kept.of_below hb26 (fun _ h _=>h),_,HG2.out.keep (Kept.of_below (s:=fun b=>b<w2.heap.size) hb26 (fun _ h _=>h)) HG2.out.lt⟩ (fun hS=>?_);clear hK K;refine wR 14 fun K hK=>?_
 go_simp;refine Calls.mono (HKE.out w6 w4.heap.size r HB6.out (by have:=HB2.out.size; have:=hb23.size; omega) (by have:=HB2.out.size; have:=hb24.size; omega) c6 (hTr.below hb46)) ?_;rintro e w7 ⟨⟨rv,rfl⟩,hp7⟩;have hp7':=hp7;obtain⟨L7,X7,M7,hA7,hk7,-⟩:=hp7';refine hK.out _ _ ⟨(Kept.of_below hb26 (fun _ h _=>h)).trans hk7,_,by have:=hA7.blk; rw[HFC.out] at this; exact this⟩ (fun hS=>?_);clear hK K hA7 hk7 c6 hb46 hb26 hTr hr1 hr2 hb4 hb24 hb23 hb3 j0;refine wpAnyH_done (by kernel_rfl) ?_ _
 try simp only[Act.put,List.getElem_toArray,List.getElem_cons_succ,List.getElem_cons_zero,List.setIfInBounds_toArray,List.set_cons_succ,List.set_cons_zero]
 try simp only[Act.put,List.getElem_toArray,List.getElem_cons_succ,List.getElem_cons_zero,List.setIfInBounds_toArray,List.set_cons_succ,List.set_cons_zero]
 have HF:Hid (SePost W0 f ts q X M w sb DN w7):=SePost.trans (Kept.of_below HB6.out (fun _ h hb=>h)) (fun _ h=>h) (fun _ h=>.inl h) (fun b=>⟨fun h=>.inl h,fun h=>by
  rcases h with h | h
  ·exact h
  ·exact HAT.out.sub b h⟩) hp7
 clear hS hp7 s0;go_wp2;refine bodyPost_ret (results_none rfl _ _ _) rfl ?_;exact⟨⟨_,rfl⟩,HF.out⟩
theorem do_join {W0:World} {f:FactsV} {ts:List TableD} {q:QueryV} (E:Env f ts q W0) {X M:Nat->Prop} {w:World} {sb:Nat} {L:SeL} {σ:SeD} (h:SeAt W0 f ts q X M w sb L σ) (hc:SCore q σ) (hal:σ.agenda.length<=900000) (tl tr:Nat) (hr0:tr≠0) (hl1:tl<σ.groups.length) (hr1:tr<σ.groups.length) (hlr:tl &&& tr=0) (hhr:(headP (σ.groups.getD tr [])).isSome=true) :
  Calls Tryz.prog 49 #[.pointer (some (aD sb 0)),.agg #[.int .u64 (tl:Int),.int .u64 (tr:Int)]] w fun e w'=>(∃ v,e=.returned v)/\SePost W0 f ts q X M w sb (doN rkN ts q (concL ts q) (tl,tr) σ) w':=by
 obtain⟨v0,v1,v2,v3,v4,v5,v6,v7,v8,v9,v10,v11,v12,hFC,-⟩:=factsCells f ts q;have h5:=E.five;have hb32:2 ^ q.src.xs.length<=32:=Nat.pow_le_pow_right (n:=2) (by omega) h5;have hgl:=hc.glen;have HD:Hid (doN rkN ts q (concL ts q) (tl,tr) σ=keepN rkN ts q (tl|||tr) (joinsT ts q (concL ts q) (σ.groups.getD tl []) (σ.groups.getD tr [])) σ):=by
  show _=_
  unfold doN;rw[if_neg hr0]
 have hor:tl|||tr<2 ^ q.src.xs.length:=or_lt (by omega) (by omega)
 have hjin:=joinsT_in (ts:=ts) (concL_len ts q) hlr (hc.grp tl hl1) (hc.grp tr hr1) hhr;have h8:(concL ts q).length<=8:=by rw[concL_len]; exact E.eight
 have hjl:=joinsT_len ts q (concL ts q) h8 (σ.groups.getD tl []) (σ.groups.getD tr []) (hc.grp tl hl1).short;have HJN:Hid (∀ x,Below w.heap.size w x->Calls Tryz.prog 81 #[.agg #[v0,v1,v2,v3,v4,v5,v6,v7,v8,v9,v10,v11,v12],.slice (some (aD (L.gb tl) 0)) (σ.groups.getD tl []).length (L.gcp tl),.slice (some (aD (L.gb tr) 0)) (σ.groups.getD tr []).length (L.gcp tr)] x (TreesPost 95 85 (fun b=>¬ X b) x (joinsT ts q (concL ts q) (σ.groups.getD tl []) (σ.groups.getD tr [])))):=fun x hx=>by
  rw[<- hFC];exact joins_any E (h.hz.next hx) ((h.grp tl hl1).1.below hx) (hc.grp tl hl1).short (L.gcp tl) (fun p hp y hy=>((hc.grp tl hl1).all p hp y hy).1) ((h.grp tr hr1).1.below hx) (hc.grp tr hr1).short (L.gcp tr) (fun p hp y hy=>((hc.grp tr hr1).all p hp y hy).1) hhr
 have HKE:Hid (∀ (x x0:World) (v:Value) (bs:List (Nat × TrD)),Below w.heap.size w x0->Below x0.heap.size x0 x->bs.map Prod.snd=joinsT ts q (concL ts q) (σ.groups.getD tl []) (σ.groups.getD tr [])->TreesIn 95 85 (fun b=>¬ X b) x0.heap.size x v bs->∃ bo bc,v=.slice bo bs.length bc/\Calls Tryz.prog 78 #[.pointer (some (aD sb 0)),.int .u64 ((tl|||tr:Nat):Int),.slice bo bs.length bc] x fun e w'=>(∃ v,e=.returned v)/\SePost W0 f ts q X M x sb (doN rkN ts q (concL ts q) (tl,tr) σ) w'):=fun x x0 v bs hx0 hx hbs hin=>by
  have hbl:bs.length<=340:=by
   have h1:bs.length=(joinsT ts q (concL ts q) (σ.groups.getD tl []) (σ.groups.getD tr [])).length:=by rw[<- hbs,List.length_map]
   rw[h1];exact hjl
  obtain⟨bo,bc,rfl,hup,-,-,hun⟩:=ptrs_own (xs:=bs.map Prod.fst) hin.own (by rw[hin.len]; omega);rw[hin.len] at hin ⊢;refine⟨bo,bc,rfl,?_⟩;rw[HD.out,<- hbs];exact keep_any E (h.below (bQ1 hx0 hx)) hc hal (tl|||tr) hor bo bc bs hup (fun a e hm=>by have h1:=(h.lt (h.sub _ hm)).2; have h2:=hun a e; have:=hx0.size; omega) (fun y hy=>(hin.tree y hy).1.unown) (rising_nodup hin.rise) (fun k hk p hp y hy hm=>by
   obtain⟨z,hz,e⟩:=List.mem_map.1 hm;have h1:=h.old hk hp hy;have h2:=(hin.tree z hz).2.1;have h3:=hx0.size;rw[e] at h2;omega) (by omega) (fun y hy=>hjin y.2 (by rw[<- hbs]; exact List.mem_map_of_mem hy))
 have HAT:Hid (SeAt W0 f ts q X M w sb L σ):=h;have HFC:Hid _:=hFC;have hgb0:=h.cells hFC;have hgb1:=h.blk;rw[hFC] at hgb1;have c13:w.cell? (aD sb 13)=some (.slice (some (aD L.gs 0)) σ.groups.length L.gcap):=hgb0.cell 13;have gcl':=h.gcell tl hl1;have gcr':=h.gcell tr hr1;have HSUB:Hid (∀ b,w.heap.size<=b->¬ M b):=fun b hb hm=>by have:=(h.lt (h.sub _ hm)).2; omega
 have hIS:∀ x,Calls Tryz.prog 77 #[.agg #[.int .u64 (tl:Int),.int .u64 (tr:Int)]] x fun e w'=>e=.returned (.bool false)/\Below x.heap.size x w':=fun x=>by
  have:=isScan_any tl tr x
  rwa [decide_eq_false hr0] at this
 have htl:(tl:Int)<(σ.groups.length:Int):=by omega
 have htr:(tr:Int)<(σ.groups.length:Int):=by omega
 have HUN:Hid (∀ (b:Nat) (x:World),x.cell? (aD b 0)=some (.int .u64 (tl:Int))->x.cell? (aD b 1)=some (.int .u64 (tr:Int))->Calls Tryz.prog 75 #[.slice (some (aD b 0)) 2 2] x fun e w'=>e=.returned (.int .u64 ((tl|||tr:Nat):Int))/\w' = x):=fun b x h0 h1=>union_two b tl tr x h0 h1 (by omega) (by omega)
 clear h hc hal hhr hlr h5 hb32 hgl HD hor hjin h8 hjl hgb0 E hFC hl1 hr1 hr0;generalize doN rkN ts q (concL ts q) (tl,tr) σ=DN at *;generalize joinsT ts q (concL ts q) (σ.groups.getD tl []) (σ.groups.getD tr [])=JT at *;generalize (σ.groups.getD tl []).length=gll at *;generalize (σ.groups.getD tr []).length=glr at *;generalize L.gb tl=gbl at *;generalize L.gb tr=gbr at *;generalize L.gcp tl=gcl at *;generalize L.gcp tr=gcr at *;obtain⟨T,hT⟩:∃ T,T=tailC L σ:=⟨_,rfl⟩
 rw[<- hT] at hgb1;generalize L.gs=ggs at *;obtain⟨gn,hgn⟩:∃ n,n=σ.groups.length:=⟨_,rfl⟩
 rw[<- hgn] at c13 htl htr;generalize L.gcap=gcp0 at *;have HGB:Hid (GB w sb 87 (#[v0,v1,v2,v3,v4,v5,v6,v7,v8,v9,v10,v11,v12]++T)):=hgb1;clear hgb1 hT hgn;generalize (tl|||tr)=TOR at *;obtain⟨w1,hw1,hb1,hx1⟩:=newB w #[.int .u64 (tl:Int),.int .u64 (tr:Int)] 111;have t0:w1.cell? (aD w.heap.size 0)=some (.int .u64 (tl:Int)):=hx1.cell 0;have t1:w1.cell? (aD w.heap.size 1)=some (.int .u64 (tr:Int)):=hx1.cell 1;have HB1:Hid (Below w.heap.size w w1):=hb1;have hIS1:=hIS w1;clear hb1 hx1 hIS;go_enter Tryz.func49,Tryz.ntmps49;go_wp2_with fail;refine hIS1.mono ?_;rintro e w2 ⟨rfl,hb2⟩;clear hIS1 hw1;have hB2:Below w.heap.size w w2:=bQ1 HB1.out hb2;have s0:=cB hb2 t0;have s1:=cB hb2 t1;have d13:=cB hB2 c13;have dl:=cB hB2 gcl';have dr:=cB hB2 gcr';have HB2:Hid (Below w.heap.size w w2):=hB2;clear hb2 hB2 t0 t1 c13 gcl' gcr';go_wp2_with fail;refine wp_region_held_drew (S:=fun x=>Below w2.heap.size w2 x) (by kernel_rfl) ((Below.refl _ _).drew) (fun hS=>?_);refine wT 0 (.pointer (some (aD sb 0))) hS (fun x hx=>?_) ?_
 ·go_simp
 refine wT 1 (.pointer (some (aD sb 0))) hS (fun x hx=>?_) ?_
 ·go_simp
 refine wT 2 (.pointer (some (aD sb 13))) hS (fun x hx=>?_) ?_
 ·go_simp
 refine wT 3 (.slice (some (aD ggs 0)) gn gcp0) hS (fun x hx=>?_) ?_
 ·have e0:=cB hx d13;go_simp
 refine wT 4 (.pointer (some (aD w.heap.size 0))) hS (fun x hx=>?_) ?_
 ·go_simp
 refine wT 5 (.int .u64 (tl:Int)) hS (fun x hx=>?_) ?_
 ·have e0:=cB hx s0;go_simp
 refine wT 6 (.pointer (some (aD ggs tl))) hS (fun x hx=>?_) ?_
 ·go_simp
 refine wT 7 (.slice (some (aD gbl 0)) gll gcl) hS (fun x hx=>?_) ?_
 ·have e0:=cB hx dl;go_simp
 refine wT 8 (.pointer (some (aD sb 0))) hS (fun x hx=>?_) ?_
 ·go_simp
 refine wT 9 (.pointer (some (aD sb 0))) hS (fun x hx=>?_) ?_
 ·go_simp
 refine wT 10 (.pointer (some (aD sb 13))) hS (fun x hx=>?_) ?_
 ·go_simp
 refine wT 11 (.slice (some (aD ggs 0)) gn gcp0) hS (fun x hx=>?_) ?_
 ·have e0:=cB hx d13;go_simp
 refine wT 12 (.pointer (some (aD w.heap.size 1))) hS (fun x hx=>?_) ?_
 ·go_simp
 refine wT 13 (.int .u64 (tr:Int)) hS (fun x hx=>?_) ?_
 ·have e0:=cB hx s1;go_simp
 refine wT 14 (.pointer (some (aD ggs tr))) hS (fun x hx=>?_) ?_
 ·go_simp
 refine wT 15 (.slice (some (aD gbr 0)) glr gcr) hS (fun x hx=>?_) ?_
 ·have e0:=cB hx dr;go_simp
 refine wT 16 (.slice (some (aD gbl 0)) gll gcl) hS (fun x hx=>?_) ?_
 ·go_simp
 refine wR 17 fun K hK=>?_
 go_simp;refine hK.out _ _ (hS) (fun hS=>?_);clear hK K;refine wpAnyH_done (by kernel_rfl) ?_ _
 try simp only[Act.put,List.getElem_toArray,List.getElem_cons_succ,List.getElem_cons_zero,List.setIfInBounds_toArray,List.set_cons_succ,List.set_cons_zero]
 try simp only[Act.put,List.getElem_toArray,List.getElem_cons_succ,List.getElem_cons_zero,List.setIfInBounds_toArray,List.set_cons_succ,List.set_cons_zero]
 have HB3:Hid (Below w.heap.size w w2.drew):=HB2.out.drew;have HG3:Hid (GB w2.drew sb 87 (#[v0,v1,v2,v3,v4,v5,v6,v7,v8,v9,v10,v11,v12]++T)):=HGB.out.keep (Kept.of_below (s:=fun b=>b<w.heap.size) HB3.out (fun _ h _=>h)) HGB.out.lt;have r0:w2.drew.cell? (aD w.heap.size 0)=some (.int .u64 (tl:Int)):=s0;have r1:w2.drew.cell? (aD w.heap.size 1)=some (.int .u64 (tr:Int)):=s1;clear hS s0 s1 d13 dl dr HB2;generalize w2.drew=w3 at *;go_wp2_with fail;refine wp_region_held_drew (S:=fun x=>Kept (fun b=>¬ M b) w3 x/\∃ T,GB x sb 87 (#[v0,v1,v2,v3,v4,v5,v6,v7,v8,v9,v10,v11,v12]++T)) (by kernel_rfl) ⟨Kept.of_below ((Below.refl w3.heap.size w3).drew) (fun _ hl _=>hl),_,HG3.out⟩ (fun hS=>?_);refine wT 0 (.pointer (some (aD sb 0))) hS (fun x hx=>?_) ?_
 ·go_simp
 refine wT 1 (.pointer (some (aD w.heap.size 0))) hS (fun x hx=>?_) ?_
 ·go_simp
 refine wT 2 (.int .u64 (tl:Int)) hS (fun x hx=>?_) ?_
 ·have e0:=cell_keepP hx.1 r0 (HSUB.out _ (Nat.le_refl _));go_simp
 refine wT 3 (.pointer (some (aD w.heap.size 1))) hS (fun x hx=>?_) ?_
 ·go_simp
 refine wT 4 (.int .u64 (tr:Int)) hS (fun x hx=>?_) ?_
 ·have e0:=cell_keepP hx.1 r1 (HSUB.out _ (Nat.le_refl _));go_simp
 refine wT 7 (.pointer (some (aD sb 0))) hS (fun x hx=>?_) ?_
 ·go_simp
 refine wT 8 (.pointer (some (aD sb 0))) hS (fun x hx=>?_) ?_
 ·go_simp
 refine wT 9 (.pointer (some (aD sb 0))) hS (fun x hx=>?_) ?_
 ·go_simp
 refine wT 10 (.agg #[v0,v1,v2,v3,v4,v5,v6,v7,v8,v9,v10,v11,v12]) hS (fun x hx=>?_) ?_
 ·obtain⟨T2,hT2⟩:=hx.2;obtain⟨e0,e1,e2,e3,e4,e5,e6,e7,e8,e9,e10,e11,e12⟩:=facts13 hT2;go_simp
 refine wT 11 (.slice (some (aD gbl 0)) gll gcl) hS (fun x hx=>?_) ?_
 ·go_simp
 refine wT 12 (.slice (some (aD gbr 0)) glr gcr) hS (fun x hx=>?_) ?_
 ·go_simp
 refine wR 5 fun K hK=>?_
 go_simp;obtain⟨w4,hw4⟩:∃ x,x=(w3.alloc (.cells #[.int .u64 (tl:Int),.int .u64 (tr:Int)] 75)).drew:=⟨_,rfl⟩
 have hb34:Below w3.heap.size w3 w4:=by rw[hw4]; exact (bQ2 _ _).drew
 have u0:w4.cell? (aD w3.heap.size 0)=some (.int .u64 (tl:Int)):=by rw[hw4]; exact (GB.alloc w3 _ _).cell 0
 have u1:w4.cell? (aD w3.heap.size 1)=some (.int .u64 (tr:Int)):=by rw[hw4]; exact (GB.alloc w3 _ _).cell 1
 rw[<- hw4];clear hw4;have hKF:∀ x,Below w3.heap.size w3 x->GB x sb 87 (#[v0,v1,v2,v3,v4,v5,v6,v7,v8,v9,v10,v11,v12]++T):=fun x hx=>HG3.out.keep (Kept.of_below (s:=fun b=>b<w3.heap.size) hx (fun _ h _=>h)) HG3.out.lt
 have HKF:Hid (∀ x,Below w3.heap.size w3 x->GB x sb 87 (#[v0,v1,v2,v3,v4,v5,v6,v7,v8,v9,v10,v11,v12]++T)):=hKF;clear hKF;refine hK.out _ _ ⟨Kept.of_below hb34 (fun _ h _=>h),_,HKF.out _ hb34⟩ (fun hS=>?_);clear hK K;refine wR 6 fun K hK=>?_
 go_simp;refine Calls.mono (HUN.out w3.heap.size w4 u0 u1) ?_;rintro e wz ⟨rfl,hwz⟩;have hwz':=hwz.symm;subst hwz';refine hK.out _ _ hS (fun hS=>?_);clear hK K u0 u1;refine wR 13 fun K hK=>?_
 go_simp;refine Calls.mono (HJN.out w4 (bQ1 HB3.out hb34)) ?_;rintro e w6 ⟨v,bs,rfl,hbs,hin,hb6⟩;obtain⟨bo,bc,rfl,hKE⟩:=HKE.out w6 w4 v bs (bQ1 HB3.out hb34) hb6 hbs hin;have hb36:Below w3.heap.size w3 w6:=bQ1 hb34 hb6;have HB6:Hid (Below w.heap.size w w6):=bQ1 HB3.out hb36;refine hK.out _ _ ⟨Kept.of_below hb36 (fun _ h _=>h),_,HKF.out _ hb36⟩ (fun hS=>?_);clear hK K;refine wR 14 fun K hK=>?_
 generalize bs.length=bl at *;go_simp;refine Calls.mono hKE ?_;rintro e w7 ⟨⟨rv,rfl⟩,hp7⟩;have hp7':=hp7;obtain⟨L7,X7,M7,hA7,hk7,-⟩:=hp7';refine hK.out _ _ ⟨(Kept.of_below hb36 (fun _ h _=>h)).trans hk7,_,by have:=hA7.blk; rw[HFC.out] at this; exact this⟩ (fun hS=>?_);clear hK K hA7 hk7 hb36 hb6 hb34 hin hbs hKE;refine wpAnyH_done (by kernel_rfl) ?_ _
 try simp only[Act.put,List.getElem_toArray,List.getElem_cons_succ,List.getElem_cons_zero,List.setIfInBounds_toArray,List.set_cons_succ,List.set_cons_zero]
 try simp only[Act.put,List.getElem_toArray,List.getElem_cons_succ,List.getElem_cons_zero,List.setIfInBounds_toArray,List.set_cons_succ,List.set_cons_zero]
 have HF:Hid (SePost W0 f ts q X M w sb DN w7):=SePost.trans (Kept.of_below HB6.out (fun _ h hb=>h)) (fun _ h=>h) (fun _ h=>.inl h) (fun b=>⟨fun h=>.inl h,fun h=>by
  rcases h with h | h
  ·exact h
  ·exact HAT.out.sub b h⟩) hp7
 clear hS hp7 r0 r1;go_wp2;go_end0;exact⟨⟨_,rfl⟩,HF.out⟩
theorem do_any {W0:World} {f:FactsV} {ts:List TableD} {q:QueryV} (E:Env f ts q W0) {X M:Nat->Prop} {w:World} {sb:Nat} {L:SeL} {σ:SeD} (h:SeAt W0 f ts q X M w sb L σ) (hc:SCore q σ) (hal:σ.agenda.length<=900000) (t:TaskD) (ht:TaskOk q.src.xs.length σ.groups t) :
  Calls Tryz.prog 49 #[.pointer (some (aD sb 0)),.agg #[.int .u64 (t.1:Int),.int .u64 (t.2:Int)]] w fun e w'=>(∃ v,e=.returned v)/\SePost W0 f ts q X M w sb (doN rkN ts q (concL ts q) t σ) w':=by
 obtain⟨tl,tr⟩:=t;rcases ht with⟨h0,i,hi,e⟩ | ⟨h0,h1,h2,h3,h4,h6⟩
 ·have h0:tr=0:=h0;have e:tl=2 ^ i:=e;subst h0 e;exact do_scan E h hc hal i hi
 ·exact do_join E h hc hal tl tr h0 h1 h2 h3 h6
end Go.Proofs.YtlpbelhfpoilpabGreatDoor
namespace Go.Scout
open Go.RowKit Go.Conc
theorem comm_step {P:Program} {b:Frame} {a:Act} {k:List Go.Item} {cs:List Frame} {w w':World} {ops:Array Oper} {i:Nat} {rest:List Nat} {o:Oper} {cases:Array CommCase} {blocking:Bool} {shape:CommShape} (ho:ops[i]? = some o) (hw:Region.wanted o (yielded ops a.tmps)=true) (hr:(execOp a.eval o).run P w=.ok (.comm cases blocking shape) w') :
  ∃ es,Go.stepG P true (Go.Conc.G (b.at a (.inRegion ops (i::rest)::k)) cs) w=.comm (Go.Conc.G (b.at a (.inRegion ops (i::rest)::k)) cs) cases blocking shape w' es:=by
 by_cases hk:b.kind=.early
 ·have hk':(b.kind==CallKind.early)=true:=by simpa using hk
  rw[stepG_oper ho hw];simp[Go.stepG.apply,hr,Go.Conc.G,Frame.at,hk',GStep.after]
 ·exact⟨_,stepG_comm ho hw hk hr⟩
theorem wp_select {P:Program} {id:Nat} {ops:Array Oper} {Q:Exit->Act->World->Prop} {a:Act} {w:World} {o:Oper} {rest:List Nat} {c:CommCase} {v:Value} (hrg:List.range ops.size=0::rest) (ho:ops[0]? = some o) (hw:Region.wanted o (yielded ops a.tmps)=true) (hr:(execOp a.eval o).run P w=.ok (.comm #[c] false .select) w)
  (hs:∀ (fr:Frame) (cs:List Frame) (es:Array Event),Go.stepG P true (Go.Conc.G fr cs) w=.comm (Go.Conc.G fr cs) #[c] false .select w es->Go.step P (solo (Go.Conc.G fr cs) w)=.next (solo (Go.Conc.G (fr.finish v) cs) w)) (h:wpOps P ops Q rest (a.put o.dst v) w):(Code.region id ops false).wp P Q a w:=by
 intro b k cs;obtain⟨e,a',w',hq,harr⟩:=wp_ops rest _ _ h b k cs;obtain⟨es,hes⟩:=comm_step (P:=P) (b:=b) (k:=k) (cs:=cs) (rest:=rest) ho hw hr;have h1:Go.step P (lone (b.at a (.inRegion ops (0::rest)::k)) cs w)=.next (lone (b.at (a.put o.dst v) (.inRegion ops rest::k)) cs w):=by
  have h2:=hs _ _ _ hes;rw[Frame.finish_at,ho] at h2;exact h2
 refine⟨e,a',w',hq,.of_steps (.head ?_ (.one h1)) harr⟩;have:=step_region (P:=P) (b:=b) (a:=a) (k:=k) (cs:=cs) (w:=w) (ops:=ops) (id:=id);rw[hrg] at this;exact this
theorem wpOps_value {P:Program} {ops:Array Oper} {Q:Exit->Act->World->Prop} {a:Act} {w:World} {i:Nat} {rest:List Nat} {o:Oper} {v:Value} (ho:ops[i]? = some o) (hw:Region.wanted o (yielded ops a.tmps)=true) (hr:(execOp a.eval o).run P w=.ok (.value v) w) (h:wpOps P ops Q rest (a.put o.dst v) w):wpOps P ops Q (i::rest) a w:=by
 simp only[wpOps,ho,hw,if_true];left;unfold Oper.wp;rw[hr];exact h
end Go.Scout
namespace Go.Proofs.YtlpbelhfpoilpabGreatDoor
open Go.RowKit Go.Scout Go.Shelf Go.Conc
theorem stepC_any {W0:World} {f:FactsV} {ts:List TableD} {q:QueryV} {X M:Nat->Prop} {w:World} {sb:Nat} {L:SeL} {σ:SeD} (h:SeAt W0 f ts q X M w sb L σ) (c:Nat) (pick:Int) (s r:Nat) (tm:Bool) (hc:w.heap[c]? = some (.chan 0 #[] true s r tm)) :
  Calls Tryz.prog 30 #[.pointer (some (aD sb 0)),.chan (some c),.int .i64 pick] w fun e w'=>(∃ v,e=.returned v)/\SePost W0 f ts q X M w sb { σ with status:=4 } w':=by
 obtain⟨v0,v1,v2,v3,v4,v5,v6,v7,v8,v9,v10,v11,v12,hFC,-⟩:=factsCells f ts q;have hgb:=h.cells hFC;have c18:w.cell? (aD sb 18)=some (.int .i64 σ.status):=hgb.cell 18;have f18:=hgb.frozen 18;have HC:Hid _:=hc;have HF:Hid (SePost W0 f ts q X M w sb { σ with status:=4 } (w.setCell (aD sb 18) (.int .i64 4))):=by
  have hne:=h.ne;have hk:Kept (fun b=>b≠sb) w (w.setCell (aD sb 18) (.int .i64 4)):=Kept.setCell _ _ _ (fun h=>h rfl);refine⟨_,h.next (hk.mono fun b _ hb=>hb.1) (av:=L.av) (pv:=L.pv) (ag:=σ.agenda) (pk:=σ.picks) (st:=4) ?_ (ownsRow_keep h.ag hk (fun g e hg=>hne.1 (hg ▸ e))) (.inl rfl) (ownsRow_keep h.pk hk (fun g e hg=>hne.2.1 (hg ▸ e))) (.inl rfl)⟩;rw[hFC];exact hgb.set 18 (.int .i64 4)
 clear hc h hgb hFC;go_enter Tryz.func30,Tryz.ntmps30;go_upto_region 1 with fail;refine wp_select (rest:=[1,2]) (c:=rcase c (.agg #[])) (v:=.tuple #[goInt (0),.bool false,.agg #[]]) (by kernel_rfl) rfl (by kernel_rfl) (by simp[go_sem,execOp,rcase,rcaseNil,Act.eval]) (fun fr cs es hes=>step_lone_select_recv_shut hes HC.out) ?_;refine wpOps_value (v:=.int .i64 (0)) rfl (by kernel_rfl) (by simp[go_sem,execOp,Act.eval,Act.put,goInt]) ?_;refine wpOps_value (v:=.bool true) rfl (by kernel_rfl) (by simp[go_sem,execOp,Act.eval,Act.put,goInt]) ?_
 show Exit.then _ _ Exit.normal _ _
 simp only[Act.put,List.getElem_toArray,List.getElem_cons_succ,List.getElem_cons_zero,List.setIfInBounds_toArray,List.set_cons_succ,List.set_cons_zero];go_wp2;go_end0;exact⟨⟨_,rfl⟩,HF.out⟩
open Go.RowKit Go.Scout Go.Shelf
theorem placeA_any (ao:Option Addr) (n cap:Nat) (pick:Int) (w:World) (h0:0<n) (hn:n<4611686018427387904) :
  Calls Tryz.prog 48 #[.slice ao n cap,.int .i64 pick] w fun e w'=>e=.returned (.int .i64 (placeI n pick))/\w' = w:=by
 have hne:((n:Int)==0)=false:=by rw[Bool.eq_false_iff]; intro h; have:=eq_of_beq h; omega
 have hne2:¬ (n:Int)=0:=by omega
 have h1:-(n:Int)<pick.tmod n/\pick.tmod n<n:=⟨Int.lt_tmod_of_pos pick (by omega),Int.tmod_lt_of_pos pick (by omega)⟩
 have HR:Hid (placeI n pick=(pick.tmod n+n).tmod n):=rfl;generalize placeI n pick=R at *;obtain⟨m,hm⟩:∃ m,pick.tmod n=m:=⟨_,rfl⟩
 rw[hm] at h1 HR;have hw:wrap64 (m+n)=m+n:=by unfold wrap64; omega
 obtain⟨m2,hm2⟩:∃ m2,(m+(n:Int)).tmod n=m2:=⟨_,rfl⟩
 rw[hm2] at HR;have h3:-(n:Int)<m2/\m2<n:=by rw[<- hm2]; exact⟨Int.lt_tmod_of_pos _ (by omega),Int.tmod_lt_of_pos _ (by omega)⟩
 have hwa:wrap64 m=m:=by unfold wrap64; omega
 have hwb:wrap64 m2=m2:=by unfold wrap64; omega
 clear h1 h3;go_enter Tryz.func48,Tryz.ntmps48;go_wp2;go_ret;exact⟨ret_int (by rw[HR.out]),rfl⟩
end Go.Proofs.YtlpbelhfpoilpabGreatDoor
