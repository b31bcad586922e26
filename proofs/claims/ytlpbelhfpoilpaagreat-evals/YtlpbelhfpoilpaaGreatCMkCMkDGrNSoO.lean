import Derived.RegionTactic
import Derived.RegionCalls
import Derived.Test.YtlpbelhfpoilpaaGreatCMkBBase6Base7GBk
import Derived.Test.YtlpbelhfpoilpaaGreatCGrEGrMRfBBase8
import Derived.Test.YtlpbelhfpoilpaaGreatCEvDSoLSoMSoN
set_option linter.all false
namespace Go.Proofs.YtlpbelhfpoilpaaGreat
open Go.RowKit Go.Scout Go.Shelf

set_option maxRecDepth 20000 in
set_option maxHeartbeats 8000000 in
/-- output, where nothing is grouped. -/
theorem outputP_any (vi : Value) (q : QueryV) (rows : List (List Int)) (w : World) (hg : q.group = false) (hi : SeqV rowEl Tryz.prog vi rows w) (hc : q.sel.At w) (hcl : q.sel.xs.length ≤ 1000) (hin : ∀ r ∈ rows, allB q.sel.xs r.length = true) :
    Calls Tryz.prog 44 #[vi, .agg q.cells] w fun e w' => ∃ v, e = .returned v ∧ SeqV (ownEl 3) Tryz.prog v (rows.map fun r => pickN r q.sel.xs) w' ∧ Below w.heap.size w w' := by
  have hb := below_alloc w (.cells q.cells 26)
  have hcon := project_make vi q.sel rows _ (hi.later hb) (IntsAt.below hb hc) hcl hin
  obtain ⟨gi, lbi, rfl, _, _⟩ := id hi
  clear hi hc hcl hin
  have HB : Hid _ := hb
  clear hb
  obtain ⟨src, wad, wcap, wh, group, keys, sums, ⟨lad, lcap, lxs⟩, ord⟩ := q
  unfold QueryV.cells IntsV.val at *
  simp only at *
  subst hg
  have hc5 : (w.alloc (.cells #[.slice src.ad src.xs.length src.cap, .slice wad wh.length wcap, .bool false, .slice keys.ad keys.xs.length keys.cap, .slice sums.ad sums.xs.length sums.cap, .slice lad lxs.length lcap, .slice ord.ad ord.xs.length ord.cap] 26)).cell? ⟨w.heap.size, 5, none⟩ = some (.slice lad lxs.length lcap) := by simp
  have hc2 : (w.alloc (.cells #[.slice src.ad src.xs.length src.cap, .slice wad wh.length wcap, .bool false, .slice keys.ad keys.xs.length keys.cap, .slice sums.ad sums.xs.length sums.cap, .slice lad lxs.length lcap, .slice ord.ad ord.xs.length ord.cap] 26)).cell? ⟨w.heap.size, 2, none⟩ = some (.bool false) := by simp
  go_enter Tryz.func44, Tryz.ntmps44
  go_wp2_with fail
  refine hcon.mono ?_
  rintro e w2 ⟨v, rfl, hs2, hb2⟩
  have HS : Hid _ := hs2
  obtain ⟨g2, lb2, rfl, _, _⟩ := id hs2
  clear hs2 hcon
  go_wp2
  go_ret
  exact ⟨_, rfl, HS.out, HB.out.trans (hb2.mono (by simp))⟩

set_option maxRecDepth 20000 in
set_option maxHeartbeats 8000000 in
/-- arranged, where no order is asked. -/
theorem arranged0_any (g : Nat) (lb : Array Value) (ao : Option Addr) (cap : Nat) (w : World) :
    Calls Tryz.prog 43 #[.func (.func g) #[] lb, .slice ao 0 cap] w fun e w' => e = .returned (.func (.func g) #[] lb) ∧ w' = w := by
  go_enter Tryz.func43, Tryz.ntmps43
  go_wp2
  go_ret
  exact ⟨rfl, rfl⟩

end Go.Proofs.YtlpbelhfpoilpaaGreat

namespace Go.Proofs.YtlpbelhfpoilpaaGreat
open Go.RowKit Go.Scout Go.Shelf

set_option maxRecDepth 20000 in
set_option maxHeartbeats 8000000 in
/-- answer, where nothing is grouped and no order asked. -/
theorem answerP_any (q : QueryV) (d : Option Addr) (dcap : Nat) (db : List RowsV) (w : World) (hg : q.group = false) (ho : q.ord.xs = []) (hq : q.At w) (hdb : DbHad w d db) (h1 : 0 < q.src.xs.length) (h5 : q.src.xs.length ≤ 5) (hcp : q.src.xs.length ≤ q.src.cap) (ha : allB q.src.xs db.length = true)
    (hrow : ∀ t, ∀ r ∈ tabN db t, r.length ≤ 100) (hlen : ∀ t, (tabN db t).length ≤ 1000000)
    (hcs : ∀ r ∈ combosN q.src.xs db, ∀ i, i < q.wh.length → ∀ k, k < (q.wh.getD i lz).cs.length → condB ((q.wh.getD i lz).cs.getD k cz) r.length = true)
    (hsl : q.sel.xs.length ≤ 1000) (hin : ∀ r ∈ combosN q.src.xs db, allB q.sel.xs r.length = true) :
    Calls Tryz.prog 19 #[.agg q.cells, .slice d db.length dcap] w fun e w' => ∃ v, e = .returned v ∧ SeqV (ownEl 3) Tryz.prog v (((combosN q.src.xs db).filter (holdsB q.wh)).map fun r => pickN r q.sel.xs) w' ∧ Below w.heap.size w w' := by
  have hb := below_alloc w (.cells q.cells 26)
  have hcm := combinations_any q.src d dcap db _ (IntsAt.below hb hq.src) (hdb.below hb) h1 h5 hcp ha hrow hlen
  have HQ : Hid _ := hq
  have HB : Hid _ := hb
  have HCS : Hid _ := hcs
  have HSL : Hid _ := hsl
  have HIN : Hid _ := hin
  obtain ⟨w1, hw1⟩ : ∃ w1, w.alloc (.cells q.cells 26) = w1 := ⟨_, rfl⟩
  have x1 : w1.cell? ⟨w.heap.size, 1, none⟩ = some (.slice q.wad q.wh.length q.wcap) := by rw [← hw1]; unfold QueryV.cells; simp
  have HX : Hid (w1.cell? ⟨w.heap.size, 0, none⟩ = some q.src.val ∧ w1.cell? ⟨w.heap.size, 1, none⟩ = some (.slice q.wad q.wh.length q.wcap) ∧ w1.cell? ⟨w.heap.size, 2, none⟩ = some (.bool q.group) ∧ w1.cell? ⟨w.heap.size, 3, none⟩ = some q.keys.val ∧ w1.cell? ⟨w.heap.size, 4, none⟩ = some q.sums.val ∧ w1.cell? ⟨w.heap.size, 5, none⟩ = some q.sel.val ∧ w1.cell? ⟨w.heap.size, 6, none⟩ = some q.ord.val) := by
    rw [← hw1]; unfold QueryV.cells; refine ⟨?_, ?_, ?_, ?_, ?_, ?_, ?_⟩ <;> simp
  rw [hw1] at HB hcm
  have HOU := fun (vi : Value) (rows : List (List Int)) (W : World) => outputP_any vi q rows W hg
  clear hb hdb h1 h5 hcp ha hrow hlen hcs hsl hin hq
  have hlz : q.ord.xs.length = 0 := by rw [ho]; rfl
  have hcl : ClausesAt w1 q.wad q.wh := HQ.out.wh.below HB.out
  have hsel : q.sel.At w1 := IntsAt.below HB.out HQ.out.sel
  have HSE : Hid _ := hsel
  have HKE : Hid (∀ W x, Below w1.heap.size w1 W → IntsV.At x W → x.xs ∈ combosN q.src.xs db → Calls Tryz.prog 41 (#[x.val] ++ #[.pointer (some ⟨w.heap.size, 0, none⟩)]) W fun e W' => e = .returned (.bool (holdsB q.wh x.xs)) ∧ Below W.heap.size W W') := fun W x hW hx hm =>
    keep_any q w.heap.size x.ad x.cap x.xs W (cell_below hW x1) hx (hcl.below hW) (HCS.out _ hm)
  clear hcl hsel x1
  generalize combosN q.src.xs db = rows at *
  have hfin : ∀ r ∈ rows.filter (holdsB q.wh), allB q.sel.xs r.length = true := fun r hr => HIN.out r (List.mem_filter.1 hr).1
  have HFI : Hid _ := hfin
  clear hfin
  generalize hpp : holdsB q.wh = p at *
  obtain ⟨⟨sad, scap, src⟩, wad, wcap, wh, group, keys, sums, ⟨lad, lcap, lxs⟩, ⟨oad, ocap, oxs⟩⟩ := q
  unfold QueryV.cells IntsV.val at *
  simp only at *
  subst ho
  subst hg
  clear hlz hpp
  obtain ⟨c0, c1, c2, c3, c4, c5, c6⟩ := HX.out
  have hw1' := hw1
  simp only [List.length_nil] at *
  go_enter Tryz.func19, Tryz.ntmps19
  go_wp2_with fail
  refine hcm.mono ?_
  rintro e w2 ⟨vc, rfl, hsc, hb2⟩
  have hfm := filter_make vc 41 #[.pointer (some ⟨w.heap.size, 0, none⟩)] rows p w2 hsc (enters_of Tryz.func41 (by kernel_rfl) rfl) (fun W x hW hx hm => HKE.out W x (hb2.trans (hW.mono hb2.size)) hx hm)
  obtain ⟨g2, lb2, rfl, _, _⟩ := id hsc
  clear hsc hcm
  go_wp2_with fail
  refine hfm.mono ?_
  rintro e w3 ⟨vf, rfl, hsf, hb3⟩
  clear hfm
  have hb13 : Below w1.heap.size w1 w3 := hb2.trans (hb3.mono hb2.size)
  have d0 := cell_below hb13 c0
  have d1 := cell_below hb13 c1
  have d2 := cell_below hb13 c2
  have d3 := cell_below hb13 c3
  have d4 := cell_below hb13 c4
  have d5 := cell_below hb13 c5
  have d6 := cell_below hb13 c6
  have hdr : Below w3.heap.size w3 w3.drew := (Below.refl _ _).drew
  have hou := HOU vf (rows.filter p) w3.drew (hsf.later hdr) (IntsAt.below (hb13.trans (hdr.mono hb13.size)) HSE.out) HSL.out HFI.out
  obtain ⟨g3, lb3, rfl, _, _⟩ := id hsf
  have hfb : Below w.heap.size w w3.drew := (HB.out.trans (hb13.mono HB.out.size)).drew
  have FB : Hid (Below w.heap.size w w3.drew) := hfb
  clear hfb
  clear hsf hb13 hdr hb2 hb3 HOU HSE HFI HIN
  have har := fun (g : Nat) (lb : Array Value) (W : World) => arranged0_any g lb oad ocap W
  go_wp2
  go_region_with (first | (refine hou.mono ?_; rintro e w4 ⟨v4, rfl, hs4, hb4⟩; have e6 := cell_below hb4 d6; obtain ⟨g4, lb4, rfl, _, _⟩ := id hs4) | (refine (arranged0_any _ _ _ _ _).mono ?_; rintro e w5 ⟨rfl, rfl⟩))
  all_goals
    go_wp2
    go_ret
    exact ⟨_, rfl, hs4, FB.out.trans (hb4.mono FB.out.size)⟩

end Go.Proofs.YtlpbelhfpoilpaaGreat

namespace Go.Proofs.YtlpbelhfpoilpaaGreat
open Go.RowKit Go.Scout Go.Shelf

set_option maxRecDepth 20000 in
set_option maxHeartbeats 4000000 in
theorem group_make (vi : Value) (k s : IntsV) (rows : List (List Int)) (w : World) (hi : SeqV rowEl Tryz.prog vi rows w) (hk : k.At w) (hs : s.At w) (hkl : k.xs.length ≤ 4) (hsl : s.xs.length ≤ 4) (hlen : rows.length ≤ 1000000) (hkin : ∀ r ∈ rows, allB k.xs r.length = true) (hsin : ∀ r ∈ rows, allB s.xs r.length = true) (hsm : ∀ r ∈ rows, ∀ v ∈ r, smallI v) :
    Calls Tryz.prog 73 #[vi, k.val, s.val] w fun e w' => ∃ v, e = .returned v ∧ SeqV (ownEl 3) Tryz.prog v ((groupsN k.xs s.xs rows).map Gr.row) w' ∧ Below w.heap.size w w' := by
  obtain ⟨gi, lbi, rfl, egi, hsi⟩ := hi
  have hb1 := below_alloc w (.cells #[.func (.func gi) #[] lbi] 62)
  have hb2 := below_alloc (w.alloc (.cells #[.func (.func gi) #[] lbi] 62)) (.cells #[k.val] 23)
  have hb3 := below_alloc ((w.alloc (.cells #[.func (.func gi) #[] lbi] 62)).alloc (.cells #[k.val] 23)) (.cells #[s.val] 23)
  have hb12 := hb1.trans (hb2.mono hb1.size)
  have hb := hb12.trans (hb3.mono hb12.size)
  have e1 : (((w.alloc (.cells #[.func (.func gi) #[] lbi] 62)).alloc (.cells #[k.val] 23)).alloc (.cells #[s.val] 23)).cell? ⟨w.heap.size, 0, none⟩ = some (.func (.func gi) #[] lbi) := cell_below (hb2.trans (hb3.mono hb2.size)) (cells_cell (heap_alloc_new w (.cells #[.func (.func gi) #[] lbi] 62)) rfl)
  have e2 : (((w.alloc (.cells #[.func (.func gi) #[] lbi] 62)).alloc (.cells #[k.val] 23)).alloc (.cells #[s.val] 23)).cell? ⟨w.heap.size + 1, 0, none⟩ = some k.val := by
    have h := heap_alloc_new (w.alloc (.cells #[.func (.func gi) #[] lbi] 62)) (.cells #[k.val] 23)
    rw [World.size_alloc] at h
    exact cell_below hb3 (cells_cell h rfl)
  have e3 : (((w.alloc (.cells #[.func (.func gi) #[] lbi] 62)).alloc (.cells #[k.val] 23)).alloc (.cells #[s.val] 23)).cell? ⟨w.heap.size + 1 + 1, 0, none⟩ = some s.val := by
    have h := heap_alloc_new ((w.alloc (.cells #[.func (.func gi) #[] lbi] 62)).alloc (.cells #[k.val] 23)) (.cells #[s.val] 23)
    rw [World.size_alloc, World.size_alloc] at h
    exact cells_cell h rfl
  have hS : SeqV (ownEl 3) Tryz.prog (.func (.func 93) #[] #[.pointer (some ⟨w.heap.size, 0, none⟩), .pointer (some ⟨w.heap.size + 1, 0, none⟩), .pointer (some ⟨w.heap.size + 1 + 1, 0, none⟩)]) ((groupsN k.xs s.xs rows).map Gr.row) (((w.alloc (.cells #[.func (.func gi) #[] lbi] 62)).alloc (.cells #[k.val] 23)).alloc (.cells #[s.val] 23)) :=
    ⟨_, _, rfl, enters_of Tryz.func93 (by kernel_rfl) rfl, group_seq w.heap.size (w.heap.size + 1) (w.heap.size + 1 + 1) gi lbi k s rows (((w.alloc (.cells #[.func (.func gi) #[] lbi] 62)).alloc (.cells #[k.val] 23)).alloc (.cells #[s.val] 23)) (by simp; omega) (by simp) (by simp) e1 e2 e3 (IntsAt.below hb hk) (IntsAt.below hb hs) hkl hsl (Seq.later _ hsi hb) egi hlen hkin hsin hsm⟩
  obtain ⟨kad, kcap, kxs⟩ := k
  obtain ⟨sad, scap, sxs⟩ := s
  unfold IntsV.val at *
  simp only at *
  have HS : Hid _ := hS
  have HB : Hid _ := hb
  clear hS hb hb1 hb2 hb3 hb12 e1 e2 e3 hsi hk hs hkl hsl hlen hkin hsin hsm
  go_enter Tryz.func73, Tryz.ntmps73
  go_wp2
  go_ret
  exact ⟨_, rfl, HS.out, HB.out⟩

set_option maxRecDepth 20000 in
set_option maxHeartbeats 8000000 in
/-- output, where it is grouped. -/
theorem outputG_any (vi : Value) (q : QueryV) (rows : List (List Int)) (w : World) (hg : q.group = true) (hi : SeqV rowEl Tryz.prog vi rows w) (hk : q.keys.At w) (hs : q.sums.At w) (hkl : q.keys.xs.length ≤ 4) (hsl : q.sums.xs.length ≤ 4) (hlen : rows.length ≤ 1000000) (hkin : ∀ r ∈ rows, allB q.keys.xs r.length = true) (hsin : ∀ r ∈ rows, allB q.sums.xs r.length = true) (hsm : ∀ r ∈ rows, ∀ v ∈ r, smallI v) :
    Calls Tryz.prog 44 #[vi, .agg q.cells] w fun e w' => ∃ v, e = .returned v ∧ SeqV (ownEl 3) Tryz.prog v ((groupsN q.keys.xs q.sums.xs rows).map Gr.row) w' ∧ Below w.heap.size w w' := by
  have hb := below_alloc w (.cells q.cells 26)
  have hdr : Below w.heap.size w (w.alloc (.cells q.cells 26)).drew := hb.drew
  have hcon := group_make vi q.keys q.sums rows (w.alloc (.cells q.cells 26)) (hi.later hb) (IntsAt.below hb hk) (IntsAt.below hb hs) hkl hsl hlen hkin hsin hsm
  obtain ⟨gi, lbi, rfl, _, _⟩ := id hi
  clear hi hk hs hkl hsl hlen hkin hsin hsm
  have HB : Hid _ := hb
  clear hb hdr
  obtain ⟨src, wad, wcap, wh, group, ⟨kad, kcap, kxs⟩, ⟨uad, ucap, uxs⟩, sel, ord⟩ := q
  unfold QueryV.cells IntsV.val at *
  simp only at *
  subst hg
  go_enter Tryz.func44, Tryz.ntmps44
  go_wp2_with fail
  refine hcon.mono ?_
  rintro e w2 ⟨v, rfl, hs2, hb2⟩
  have HS : Hid _ := hs2
  obtain ⟨g2, lb2, rfl, _, _⟩ := id hs2
  clear hs2 hcon
  go_wp2
  go_ret
  exact ⟨_, rfl, HS.out, HB.out.trans (hb2.mono (by simp))⟩

set_option maxRecDepth 20000 in
set_option maxHeartbeats 8000000 in
/-- answer, where it is grouped and no order asked. -/
theorem answerG_any (q : QueryV) (d : Option Addr) (dcap : Nat) (db : List RowsV) (w : World) (hg : q.group = true) (ho : q.ord.xs = []) (hq : q.At w) (hdb : DbHad w d db) (h1 : 0 < q.src.xs.length) (h5 : q.src.xs.length ≤ 5) (hcp : q.src.xs.length ≤ q.src.cap) (ha : allB q.src.xs db.length = true)
    (hrow : ∀ t, ∀ r ∈ tabN db t, r.length ≤ 100) (hlen : ∀ t, (tabN db t).length ≤ 1000000)
    (hcs : ∀ r ∈ combosN q.src.xs db, ∀ i, i < q.wh.length → ∀ k, k < (q.wh.getD i lz).cs.length → condB ((q.wh.getD i lz).cs.getD k cz) r.length = true)
    (hkl : q.keys.xs.length ≤ 4) (hsl : q.sums.xs.length ≤ 4) (hcl : (combosN q.src.xs db).length ≤ 1000000) (hkin : ∀ r ∈ combosN q.src.xs db, allB q.keys.xs r.length = true) (hin : ∀ r ∈ combosN q.src.xs db, allB q.sums.xs r.length = true) (hsm : ∀ r ∈ combosN q.src.xs db, ∀ v ∈ r, smallI v) :
    Calls Tryz.prog 19 #[.agg q.cells, .slice d db.length dcap] w fun e w' => ∃ v, e = .returned v ∧ SeqV (ownEl 3) Tryz.prog v ((groupsN q.keys.xs q.sums.xs ((combosN q.src.xs db).filter (holdsB q.wh))).map Gr.row) w' ∧ Below w.heap.size w w' := by
  have hb := below_alloc w (.cells q.cells 26)
  have hcm := combinations_any q.src d dcap db _ (IntsAt.below hb hq.src) (hdb.below hb) h1 h5 hcp ha hrow hlen
  have HQ : Hid _ := hq
  have HB : Hid _ := hb
  have HCS : Hid _ := hcs
  have HSL : Hid _ := hsl
  have HKL : Hid _ := hkl
  have HCL : Hid _ := hcl
  have HKI : Hid _ := hkin
  have HIN : Hid _ := hin
  have HSM : Hid _ := hsm
  obtain ⟨w1, hw1⟩ : ∃ w1, w.alloc (.cells q.cells 26) = w1 := ⟨_, rfl⟩
  have x1 : w1.cell? ⟨w.heap.size, 1, none⟩ = some (.slice q.wad q.wh.length q.wcap) := by rw [← hw1]; unfold QueryV.cells; simp
  have HX : Hid (w1.cell? ⟨w.heap.size, 0, none⟩ = some q.src.val ∧ w1.cell? ⟨w.heap.size, 1, none⟩ = some (.slice q.wad q.wh.length q.wcap) ∧ w1.cell? ⟨w.heap.size, 2, none⟩ = some (.bool q.group) ∧ w1.cell? ⟨w.heap.size, 3, none⟩ = some q.keys.val ∧ w1.cell? ⟨w.heap.size, 4, none⟩ = some q.sums.val ∧ w1.cell? ⟨w.heap.size, 5, none⟩ = some q.sel.val ∧ w1.cell? ⟨w.heap.size, 6, none⟩ = some q.ord.val) := by
    rw [← hw1]; unfold QueryV.cells; refine ⟨?_, ?_, ?_, ?_, ?_, ?_, ?_⟩ <;> simp
  rw [hw1] at HB hcm
  have HOU := fun (vi : Value) (rows : List (List Int)) (W : World) => outputG_any vi q rows W hg
  clear hb hdb h1 h5 hcp ha hrow hlen hcs hsl hin hq hkl hcl hkin hsm
  have hlz : q.ord.xs.length = 0 := by rw [ho]; rfl
  have hcla : ClausesAt w1 q.wad q.wh := HQ.out.wh.below HB.out
  have hke : q.keys.At w1 := IntsAt.below HB.out HQ.out.keys
  have hsu : q.sums.At w1 := IntsAt.below HB.out HQ.out.sums
  have HKE1 : Hid _ := hke
  have HSU : Hid _ := hsu
  have HKE : Hid (∀ W x, Below w1.heap.size w1 W → IntsV.At x W → x.xs ∈ combosN q.src.xs db → Calls Tryz.prog 41 (#[x.val] ++ #[.pointer (some ⟨w.heap.size, 0, none⟩)]) W fun e W' => e = .returned (.bool (holdsB q.wh x.xs)) ∧ Below W.heap.size W W') := fun W x hW hx hm =>
    keep_any q w.heap.size x.ad x.cap x.xs W (cell_below hW x1) hx (hcla.below hW) (HCS.out _ hm)
  clear hcla hke hsu x1
  generalize combosN q.src.xs db = rows at *
  have HFI : Hid ((rows.filter (holdsB q.wh)).length ≤ 1000000 ∧ (∀ r ∈ rows.filter (holdsB q.wh), allB q.keys.xs r.length = true) ∧ (∀ r ∈ rows.filter (holdsB q.wh), allB q.sums.xs r.length = true) ∧ ∀ r ∈ rows.filter (holdsB q.wh), ∀ v ∈ r, smallI v) :=
    ⟨Nat.le_trans (List.length_filter_le _ _) HCL.out, fun r hr => HKI.out r (List.mem_filter.1 hr).1, fun r hr => HIN.out r (List.mem_filter.1 hr).1, fun r hr => HSM.out r (List.mem_filter.1 hr).1⟩
  generalize hpp : holdsB q.wh = p at *
  obtain ⟨⟨sad, scap, src⟩, wad, wcap, wh, group, ⟨kad, kcap, kxs⟩, ⟨uad, ucap, uxs⟩, ⟨lad, lcap, lxs⟩, ⟨oad, ocap, oxs⟩⟩ := q
  unfold QueryV.cells IntsV.val at *
  simp only at *
  subst ho
  subst hg
  clear hlz hpp
  obtain ⟨c0, c1, c2, c3, c4, c5, c6⟩ := HX.out
  have hw1' := hw1
  simp only [List.length_nil] at *
  go_enter Tryz.func19, Tryz.ntmps19
  go_wp2_with fail
  refine hcm.mono ?_
  rintro e w2 ⟨vc, rfl, hsc, hb2⟩
  have hfm := filter_make vc 41 #[.pointer (some ⟨w.heap.size, 0, none⟩)] rows p w2 hsc (enters_of Tryz.func41 (by kernel_rfl) rfl) (fun W x hW hx hm => HKE.out W x (hb2.trans (hW.mono hb2.size)) hx hm)
  obtain ⟨g2, lb2, rfl, _, _⟩ := id hsc
  clear hsc hcm
  go_wp2_with fail
  refine hfm.mono ?_
  rintro e w3 ⟨vf, rfl, hsf, hb3⟩
  clear hfm
  have hb13 : Below w1.heap.size w1 w3 := hb2.trans (hb3.mono hb2.size)
  have d0 := cell_below hb13 c0
  have d1 := cell_below hb13 c1
  have d2 := cell_below hb13 c2
  have d3 := cell_below hb13 c3
  have d4 := cell_below hb13 c4
  have d5 := cell_below hb13 c5
  have d6 := cell_below hb13 c6
  have hdr : Below w3.heap.size w3 w3.drew := (Below.refl _ _).drew
  have hou := HOU vf (rows.filter p) w3.drew (hsf.later hdr) (IntsAt.below (hb13.trans (hdr.mono hb13.size)) HKE1.out) (IntsAt.below (hb13.trans (hdr.mono hb13.size)) HSU.out) HKL.out HSL.out HFI.out.1 HFI.out.2.1 HFI.out.2.2.1 HFI.out.2.2.2
  obtain ⟨g3, lb3, rfl, _, _⟩ := id hsf
  have hfb : Below w.heap.size w w3.drew := (HB.out.trans (hb13.mono HB.out.size)).drew
  have FB : Hid (Below w.heap.size w w3.drew) := hfb
  clear hfb
  clear hsf hb13 hdr hb2 hb3 HOU HKE1 HSU HFI HIN HKI HSM HCL HKL HSL
  have har := fun (g : Nat) (lb : Array Value) (W : World) => arranged0_any g lb oad ocap W
  go_wp2
  go_region_with (first | (refine hou.mono ?_; rintro e w4 ⟨v4, rfl, hs4, hb4⟩; have e6 := cell_below hb4 d6; obtain ⟨g4, lb4, rfl, _, _⟩ := id hs4) | (refine (arranged0_any _ _ _ _ _).mono ?_; rintro e w5 ⟨rfl, rfl⟩))
  all_goals
    go_wp2
    go_ret
    exact ⟨_, rfl, hs4, FB.out.trans (hb4.mono FB.out.size)⟩

end Go.Proofs.YtlpbelhfpoilpaaGreat

namespace Go.Proofs.YtlpbelhfpoilpaaGreat
open Go.RowKit Go.Scout Go.Shelf

set_option maxRecDepth 20000 in
set_option maxHeartbeats 4000000 in
theorem sort_make {E : El IntsV (List Int)} (K : RowKind E) (vi : Value) (c : IntsV) (rows : List (List Int)) (w : World) (hi : SeqV E Tryz.prog vi rows w) (hc : c.At w) (h0 : 0 < c.xs.length) (hlen : rows.length ≤ 1000000) (hin : ∀ r ∈ rows, allB c.xs r.length = true) :
    Calls Tryz.prog 72 #[vi, c.val] w fun e w' => ∃ v, e = .returned v ∧ SeqV E Tryz.prog v (sortN c.xs rows) w' ∧ Below w.heap.size w w' := by
  obtain ⟨gi, lbi, rfl, egi, hsi⟩ := hi
  have hb1 := below_alloc w (.cells #[.func (.func gi) #[] lbi] 62)
  have hb2 := below_alloc (w.alloc (.cells #[.func (.func gi) #[] lbi] 62)) (.cells #[c.val] 23)
  have hb := hb1.trans (hb2.mono hb1.size)
  have hca : ∀ a, c.ad = some a → a.block < ((w.alloc (.cells #[.func (.func gi) #[] lbi] 62)).alloc (.cells #[c.val] 23)).heap.size := fun a ha => by
    obtain ⟨b, off, e, hcc⟩ := IntsAt.get hc h0
    rw [ha] at e
    cases e
    exact Nat.lt_of_lt_of_le (lt_of_cell (hcc 0 h0)) hb.size
  have hs : SeqV E Tryz.prog (.func (.func 89) #[] #[.pointer (some ⟨w.heap.size, 0, none⟩), .pointer (some ⟨w.heap.size + 1, 0, none⟩)]) (sortN c.xs rows) ((w.alloc (.cells #[.func (.func gi) #[] lbi] 62)).alloc (.cells #[c.val] 23)) :=
    ⟨_, _, rfl, enters_of Tryz.func89 (by kernel_rfl) rfl, sort_seq K w.heap.size (w.heap.size + 1) gi lbi c rows _ (by simp; omega) (by simp) (by simp) (by simp) (IntsAt.below hb hc) hca (Seq.later _ hsi hb) egi hlen hin⟩
  obtain ⟨cad, ccap, cxs⟩ := c
  unfold IntsV.val at *
  simp only at *
  have HS : Hid _ := hs
  have HB : Hid _ := hb
  clear hs hb hb1 hb2 hsi hc hlen hin hca
  go_enter Tryz.func72, Tryz.ntmps72
  go_wp2
  go_ret
  exact ⟨_, rfl, HS.out, HB.out⟩

set_option maxRecDepth 20000 in
set_option maxHeartbeats 4000000 in
theorem arranged_any {E : El IntsV (List Int)} (K : RowKind E) (vi : Value) (c : IntsV) (rows : List (List Int)) (w : World) (hi : SeqV E Tryz.prog vi rows w) (hc : c.At w) (hlen : rows.length ≤ 1000000) (hin : ∀ r ∈ rows, allB c.xs r.length = true) :
    Calls Tryz.prog 43 #[vi, c.val] w fun e w' => ∃ v, e = .returned v ∧ SeqV E Tryz.prog v (sortN c.xs rows) w' ∧ Below w.heap.size w w' := by
  by_cases h0 : c.xs = []
  · rw [h0, sortN_none]
    obtain ⟨gi, lbi, rfl, _, _⟩ := id hi
    obtain ⟨cad, ccap, cxs⟩ := c
    simp only at h0
    subst h0
    refine (arranged0_any gi lbi cad ccap w).mono ?_
    rintro e w' ⟨rfl, rfl⟩
    exact ⟨_, rfl, hi, Below.refl _ _⟩
  · have hpos : 0 < c.xs.length := List.length_pos_iff.2 h0
    have hcon := sort_make K vi c rows w hi hc hpos hlen hin
    obtain ⟨gi, lbi, rfl, _, _⟩ := id hi
    obtain ⟨cad, ccap, cxs⟩ := c
    unfold IntsV.val at *
    simp only at *
    have hl := hc.1
    have hne : ((cxs.length : Int) == 0) = false := by
      have : ¬ (cxs.length : Int) = 0 := by omega
      simpa using this
    clear hi hc hlen hin h0
    go_enter Tryz.func43, Tryz.ntmps43
    go_wp2_with fail
    refine hcon.mono ?_
    rintro e w2 ⟨v, rfl, hs2, hb2⟩
    have HS : Hid _ := hs2
    obtain ⟨g2, lb2, rfl, _, _⟩ := id hs2
    clear hs2 hcon
    go_wp2
    go_ret
    exact ⟨_, rfl, HS.out, hb2⟩

set_option maxRecDepth 20000 in
set_option maxHeartbeats 8000000 in
/-- answer, by what its output is. -/
theorem answerX_any {E : El IntsV (List Int)} (K : RowKind E) (q : QueryV) (d : Option Addr) (dcap : Nat) (db : List RowsV) (outR : List (List Int)) (w : World) (hq : q.At w) (hdb : DbHad w d db) (h1 : 0 < q.src.xs.length) (h5 : q.src.xs.length ≤ 5) (hcp : q.src.xs.length ≤ q.src.cap) (ha : allB q.src.xs db.length = true)
    (hrow : ∀ t, ∀ r ∈ tabN db t, r.length ≤ 100) (hlen : ∀ t, (tabN db t).length ≤ 1000000)
    (hcs : ∀ r ∈ combosN q.src.xs db, ∀ i, i < q.wh.length → ∀ k, k < (q.wh.getD i lz).cs.length → condB ((q.wh.getD i lz).cs.getD k cz) r.length = true)
    (hout : ∀ vf W, Below w.heap.size w W → SeqV rowEl Tryz.prog vf ((combosN q.src.xs db).filter (holdsB q.wh)) W → Calls Tryz.prog 44 #[vf, .agg q.cells] W fun e w' => ∃ v, e = .returned v ∧ SeqV E Tryz.prog v outR w' ∧ Below W.heap.size W w')
    (hol : outR.length ≤ 1000000) (hoi : ∀ r ∈ outR, allB q.ord.xs r.length = true) :
    Calls Tryz.prog 19 #[.agg q.cells, .slice d db.length dcap] w fun e w' => ∃ v, e = .returned v ∧ SeqV E Tryz.prog v (sortN q.ord.xs outR) w' ∧ Below w.heap.size w w' := by
  have hb := below_alloc w (.cells q.cells 26)
  have hcm := combinations_any q.src d dcap db _ (IntsAt.below hb hq.src) (hdb.below hb) h1 h5 hcp ha hrow hlen
  have HQ : Hid _ := hq
  have HB : Hid _ := hb
  have HCS : Hid _ := hcs
  obtain ⟨w1, hw1⟩ : ∃ w1, w.alloc (.cells q.cells 26) = w1 := ⟨_, rfl⟩
  have x1 : w1.cell? ⟨w.heap.size, 1, none⟩ = some (.slice q.wad q.wh.length q.wcap) := by rw [← hw1]; unfold QueryV.cells; simp
  have HX : Hid (w1.cell? ⟨w.heap.size, 0, none⟩ = some q.src.val ∧ w1.cell? ⟨w.heap.size, 1, none⟩ = some (.slice q.wad q.wh.length q.wcap) ∧ w1.cell? ⟨w.heap.size, 2, none⟩ = some (.bool q.group) ∧ w1.cell? ⟨w.heap.size, 3, none⟩ = some q.keys.val ∧ w1.cell? ⟨w.heap.size, 4, none⟩ = some q.sums.val ∧ w1.cell? ⟨w.heap.size, 5, none⟩ = some q.sel.val ∧ w1.cell? ⟨w.heap.size, 6, none⟩ = some q.ord.val) := by
    rw [← hw1]; unfold QueryV.cells; refine ⟨?_, ?_, ?_, ?_, ?_, ?_, ?_⟩ <;> simp
  rw [hw1] at HB hcm
  have HOU : Hid _ := hout
  have hord : q.ord.At w1 := IntsAt.below HB.out HQ.out.ord
  have HAR : Hid (∀ v W, Below w1.heap.size w1 W → SeqV E Tryz.prog v outR W → Calls Tryz.prog 43 #[v, q.ord.val] W fun e w' => ∃ v, e = .returned v ∧ SeqV E Tryz.prog v (sortN q.ord.xs outR) w' ∧ Below W.heap.size W w') :=
    fun v W hW hv => arranged_any K v q.ord outR W hv (IntsAt.below hW hord) hol hoi
  clear hb hdb h1 h5 hcp ha hrow hlen hcs hq hout hol hoi hord
  have hcl : ClausesAt w1 q.wad q.wh := HQ.out.wh.below HB.out
  have HKE : Hid (∀ W x, Below w1.heap.size w1 W → IntsV.At x W → x.xs ∈ combosN q.src.xs db → Calls Tryz.prog 41 (#[x.val] ++ #[.pointer (some ⟨w.heap.size, 0, none⟩)]) W fun e W' => e = .returned (.bool (holdsB q.wh x.xs)) ∧ Below W.heap.size W W') := fun W x hW hx hm =>
    keep_any q w.heap.size x.ad x.cap x.xs W (cell_below hW x1) hx (hcl.below hW) (HCS.out _ hm)
  clear hcl x1
  generalize combosN q.src.xs db = rows at *
  generalize sortN q.ord.xs outR = res at *
  generalize hpp : holdsB q.wh = p at *
  obtain ⟨⟨sad, scap, src⟩, wad, wcap, wh, group, keys, sums, ⟨lad, lcap, lxs⟩, ⟨oad, ocap, oxs⟩⟩ := q
  unfold QueryV.cells IntsV.val at *
  simp only at *
  clear hpp
  obtain ⟨c0, c1, c2, c3, c4, c5, c6⟩ := HX.out
  have hw1' := hw1
  go_enter Tryz.func19, Tryz.ntmps19
  go_wp2_with fail
  refine hcm.mono ?_
  rintro e w2 ⟨vc, rfl, hsc, hb2⟩
  have hfm := filter_make vc 41 #[.pointer (some ⟨w.heap.size, 0, none⟩)] rows p w2 hsc (enters_of Tryz.func41 (by kernel_rfl) rfl) (fun W x hW hx hm => HKE.out W x (hb2.trans (hW.mono hb2.size)) hx hm)
  obtain ⟨g2, lb2, rfl, _, _⟩ := id hsc
  clear hsc hcm
  go_wp2_with fail
  refine hfm.mono ?_
  rintro e w3 ⟨vf, rfl, hsf, hb3⟩
  clear hfm
  have hb13 : Below w1.heap.size w1 w3 := hb2.trans (hb3.mono hb2.size)
  have d0 := cell_below hb13 c0
  have d1 := cell_below hb13 c1
  have d2 := cell_below hb13 c2
  have d3 := cell_below hb13 c3
  have d4 := cell_below hb13 c4
  have d5 := cell_below hb13 c5
  have d6 := cell_below hb13 c6
  have hdr : Below w3.heap.size w3 w3.drew := (Below.refl _ _).drew
  have hfb : Below w.heap.size w w3.drew := (HB.out.trans (hb13.mono HB.out.size)).drew
  have hou := HOU.out vf w3.drew hfb (hsf.later hdr)
  obtain ⟨g3, lb3, rfl, _, _⟩ := id hsf
  have FB : Hid (Below w.heap.size w w3.drew) := hfb
  have F1 : Hid (Below w1.heap.size w1 w3.drew) := hb13.drew
  clear hfb
  clear hsf hb13 hdr hb2 hb3 HOU HKE HCS HQ c0 c1 c2 c3 c4 c5 c6
  go_wp2
  go_region_with (first | (refine hou.mono ?_; rintro e w4 ⟨v4, rfl, hs4, hb4⟩; have e6 := cell_below hb4 d6; have har := HAR.out v4 w4 (F1.out.trans (hb4.mono F1.out.size)) hs4; obtain ⟨g4, lb4, rfl, _, _⟩ := hs4) | (refine har.mono ?_; rintro e w5 ⟨v5, rfl, hs5, hb5⟩; have HS5 : Hid _ := hs5; obtain ⟨g5, lb5, rfl, _, _⟩ := hs5))
  all_goals
    go_wp2
    go_ret
    exact ⟨_, rfl, HS5.out, FB.out.trans ((hb4.trans (hb5.mono hb4.size)).mono FB.out.size)⟩

end Go.Proofs.YtlpbelhfpoilpaaGreat

