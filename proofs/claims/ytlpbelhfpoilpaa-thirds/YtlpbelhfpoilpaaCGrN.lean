import Derived.Test.YtlpbelhfpoilpaaCMkD
import Derived.Test.YtlpbelhfpoilpaaCGrM
set_option linter.all false
namespace Go.Proofs.Ytlpbelhfpoilpaa
open Go.RowKit Go.Scout Go.Shelf

set_option maxRecDepth 20000 in
set_option maxHeartbeats 4000000 in
theorem group_make (vi : Value) (k s : IntsV) (rows : List (List Int)) (w : World) (hi : SeqV rowEl Try.prog vi rows w) (hk : k.At w) (hs : s.At w) (hkl : k.xs.length ≤ 4) (hsl : s.xs.length ≤ 4) (hlen : rows.length ≤ 1000000) (hkin : ∀ r ∈ rows, allB k.xs r.length = true) (hsin : ∀ r ∈ rows, allB s.xs r.length = true) (hsm : ∀ r ∈ rows, ∀ v ∈ r, smallI v) :
    Calls Try.prog 74 #[vi, k.val, s.val] w fun e w' => ∃ v, e = .returned v ∧ SeqV (ownEl 3) Try.prog v ((groupsN k.xs s.xs rows).map Gr.row) w' ∧ Below w.heap.size w w' := by
  obtain ⟨gi, lbi, rfl, egi, hsi⟩ := hi
  have hb1 := below_alloc w (.cells #[.func (.func gi) #[] lbi] 87)
  have hb2 := below_alloc (w.alloc (.cells #[.func (.func gi) #[] lbi] 87)) (.cells #[k.val] 23)
  have hb3 := below_alloc ((w.alloc (.cells #[.func (.func gi) #[] lbi] 87)).alloc (.cells #[k.val] 23)) (.cells #[s.val] 23)
  have hb12 := hb1.trans (hb2.mono hb1.size)
  have hb := hb12.trans (hb3.mono hb12.size)
  have e1 : (((w.alloc (.cells #[.func (.func gi) #[] lbi] 87)).alloc (.cells #[k.val] 23)).alloc (.cells #[s.val] 23)).cell? ⟨w.heap.size, 0, none⟩ = some (.func (.func gi) #[] lbi) := cell_below (hb2.trans (hb3.mono hb2.size)) (cells_cell (heap_alloc_new w (.cells #[.func (.func gi) #[] lbi] 87)) rfl)
  have e2 : (((w.alloc (.cells #[.func (.func gi) #[] lbi] 87)).alloc (.cells #[k.val] 23)).alloc (.cells #[s.val] 23)).cell? ⟨w.heap.size + 1, 0, none⟩ = some k.val := by
    have h := heap_alloc_new (w.alloc (.cells #[.func (.func gi) #[] lbi] 87)) (.cells #[k.val] 23)
    rw [World.size_alloc] at h
    exact cell_below hb3 (cells_cell h rfl)
  have e3 : (((w.alloc (.cells #[.func (.func gi) #[] lbi] 87)).alloc (.cells #[k.val] 23)).alloc (.cells #[s.val] 23)).cell? ⟨w.heap.size + 1 + 1, 0, none⟩ = some s.val := by
    have h := heap_alloc_new ((w.alloc (.cells #[.func (.func gi) #[] lbi] 87)).alloc (.cells #[k.val] 23)) (.cells #[s.val] 23)
    rw [World.size_alloc, World.size_alloc] at h
    exact cells_cell h rfl
  have hS : SeqV (ownEl 3) Try.prog (.func (.func 92) #[] #[.pointer (some ⟨w.heap.size, 0, none⟩), .pointer (some ⟨w.heap.size + 1, 0, none⟩), .pointer (some ⟨w.heap.size + 1 + 1, 0, none⟩)]) ((groupsN k.xs s.xs rows).map Gr.row) (((w.alloc (.cells #[.func (.func gi) #[] lbi] 87)).alloc (.cells #[k.val] 23)).alloc (.cells #[s.val] 23)) :=
    ⟨_, _, rfl, enters_of Try.func92 (by kernel_rfl) rfl, group_seq w.heap.size (w.heap.size + 1) (w.heap.size + 1 + 1) gi lbi k s rows (((w.alloc (.cells #[.func (.func gi) #[] lbi] 87)).alloc (.cells #[k.val] 23)).alloc (.cells #[s.val] 23)) (by simp; omega) (by simp) (by simp) e1 e2 e3 (IntsAt.below hb hk) (IntsAt.below hb hs) hkl hsl (Seq.later _ hsi hb) egi hlen hkin hsin hsm⟩
  obtain ⟨kad, kcap, kxs⟩ := k
  obtain ⟨sad, scap, sxs⟩ := s
  unfold IntsV.val at *
  simp only at *
  have HS : Hid _ := hS
  have HB : Hid _ := hb
  clear hS hb hb1 hb2 hb3 hb12 e1 e2 e3 hsi hk hs hkl hsl hlen hkin hsin hsm
  go_enter Try.func74, Try.ntmps74
  go_wp2
  go_ret
  exact ⟨_, rfl, HS.out, HB.out⟩

set_option maxRecDepth 20000 in
set_option maxHeartbeats 8000000 in
/-- output, where it is grouped. -/
theorem outputG_any (vi : Value) (q : QueryV) (rows : List (List Int)) (w : World) (hg : q.group = true) (hi : SeqV rowEl Try.prog vi rows w) (hk : q.keys.At w) (hs : q.sums.At w) (hkl : q.keys.xs.length ≤ 4) (hsl : q.sums.xs.length ≤ 4) (hlen : rows.length ≤ 1000000) (hkin : ∀ r ∈ rows, allB q.keys.xs r.length = true) (hsin : ∀ r ∈ rows, allB q.sums.xs r.length = true) (hsm : ∀ r ∈ rows, ∀ v ∈ r, smallI v) :
    Calls Try.prog 56 #[vi, .agg q.cells] w fun e w' => ∃ v, e = .returned v ∧ SeqV (ownEl 3) Try.prog v ((groupsN q.keys.xs q.sums.xs rows).map Gr.row) w' ∧ Below w.heap.size w w' := by
  have hb := below_alloc w (.cells q.cells 26)
  have hdr : Below w.heap.size w (w.alloc (.cells q.cells 26)).drew := hb.drew
  have hcon := group_make vi q.keys q.sums rows (w.alloc (.cells q.cells 26)) (hi.later hb) (IntsAt.below hb hk) (IntsAt.below hb hs) hkl hsl hlen hkin hsin hsm
  obtain ⟨gi, lbi, rfl, _, _⟩ := id hi
  clear hi hk hs hkl hsl hlen hkin hsin hsm
  have HB : Hid _ := hb
  clear hb hdr
  obtain ⟨src, wad, wcap, wh, group, ⟨kad, kcap, kxs⟩, ⟨uad, ucap, uxs⟩, sel, ord⟩ := q
  unfold QueryV.cells IntsV.val at *
  simp only at *
  subst hg
  go_enter Try.func56, Try.ntmps56
  go_wp2_with fail
  refine hcon.mono ?_
  rintro e w2 ⟨v, rfl, hs2, hb2⟩
  have HS : Hid _ := hs2
  obtain ⟨g2, lb2, rfl, _, _⟩ := id hs2
  clear hs2 hcon
  go_wp2
  go_ret
  exact ⟨_, rfl, HS.out, HB.out.trans (hb2.mono (by simp))⟩

set_option maxRecDepth 20000 in
set_option maxHeartbeats 8000000 in
/-- answer, where it is grouped and no order asked. -/
theorem answerG_any (q : QueryV) (d : Option Addr) (dcap : Nat) (db : List RowsV) (w : World) (hg : q.group = true) (ho : q.ord.xs = []) (hq : q.At w) (hdb : DbHad w d db) (h1 : 0 < q.src.xs.length) (h5 : q.src.xs.length ≤ 5) (hcp : q.src.xs.length ≤ q.src.cap) (ha : allB q.src.xs db.length = true)
    (hrow : ∀ t, ∀ r ∈ tabN db t, r.length ≤ 100) (hlen : ∀ t, (tabN db t).length ≤ 1000000)
    (hcs : ∀ r ∈ combosN q.src.xs db, ∀ i, i < q.wh.length → ∀ k, k < (q.wh.getD i lz).cs.length → condB ((q.wh.getD i lz).cs.getD k cz) r.length = true)
    (hkl : q.keys.xs.length ≤ 4) (hsl : q.sums.xs.length ≤ 4) (hcl : (combosN q.src.xs db).length ≤ 1000000) (hkin : ∀ r ∈ combosN q.src.xs db, allB q.keys.xs r.length = true) (hin : ∀ r ∈ combosN q.src.xs db, allB q.sums.xs r.length = true) (hsm : ∀ r ∈ combosN q.src.xs db, ∀ v ∈ r, smallI v) :
    Calls Try.prog 40 #[.agg q.cells, .slice d db.length dcap] w fun e w' => ∃ v, e = .returned v ∧ SeqV (ownEl 3) Try.prog v ((groupsN q.keys.xs q.sums.xs ((combosN q.src.xs db).filter (holdsB q.wh))).map Gr.row) w' ∧ Below w.heap.size w w' := by
  have hb := below_alloc w (.cells q.cells 26)
  have hcm := combinations_any q.src d dcap db _ (IntsAt.below hb hq.src) (hdb.below hb) h1 h5 hcp ha hrow hlen
  have HQ : Hid _ := hq
  have HB : Hid _ := hb
  have HCS : Hid _ := hcs
  have HSL : Hid _ := hsl
  have HKL : Hid _ := hkl
  have HCL : Hid _ := hcl
  have HKI : Hid _ := hkin
  have HIN : Hid _ := hin
  have HSM : Hid _ := hsm
  obtain ⟨w1, hw1⟩ : ∃ w1, w.alloc (.cells q.cells 26) = w1 := ⟨_, rfl⟩
  have x1 : w1.cell? ⟨w.heap.size, 1, none⟩ = some (.slice q.wad q.wh.length q.wcap) := by rw [← hw1]; unfold QueryV.cells; simp
  have HX : Hid (w1.cell? ⟨w.heap.size, 0, none⟩ = some q.src.val ∧ w1.cell? ⟨w.heap.size, 1, none⟩ = some (.slice q.wad q.wh.length q.wcap) ∧ w1.cell? ⟨w.heap.size, 2, none⟩ = some (.bool q.group) ∧ w1.cell? ⟨w.heap.size, 3, none⟩ = some q.keys.val ∧ w1.cell? ⟨w.heap.size, 4, none⟩ = some q.sums.val ∧ w1.cell? ⟨w.heap.size, 5, none⟩ = some q.sel.val ∧ w1.cell? ⟨w.heap.size, 6, none⟩ = some q.ord.val) := by
    rw [← hw1]; unfold QueryV.cells; refine ⟨?_, ?_, ?_, ?_, ?_, ?_, ?_⟩ <;> simp
  rw [hw1] at HB hcm
  have HOU := fun (vi : Value) (rows : List (List Int)) (W : World) => outputG_any vi q rows W hg
  clear hb hdb h1 h5 hcp ha hrow hlen hcs hsl hin hq hkl hcl hkin hsm
  have hlz : q.ord.xs.length = 0 := by rw [ho]; rfl
  have hcla : ClausesAt w1 q.wad q.wh := HQ.out.wh.below HB.out
  have hke : q.keys.At w1 := IntsAt.below HB.out HQ.out.keys
  have hsu : q.sums.At w1 := IntsAt.below HB.out HQ.out.sums
  have HKE1 : Hid _ := hke
  have HSU : Hid _ := hsu
  have HKE : Hid (∀ W x, Below w1.heap.size w1 W → IntsV.At x W → x.xs ∈ combosN q.src.xs db → Calls Try.prog 53 (#[x.val] ++ #[.pointer (some ⟨w.heap.size, 0, none⟩)]) W fun e W' => e = .returned (.bool (holdsB q.wh x.xs)) ∧ Below W.heap.size W W') := fun W x hW hx hm =>
    keep_any q w.heap.size x.ad x.cap x.xs W (cell_below hW x1) hx (hcla.below hW) (HCS.out _ hm)
  clear hcla hke hsu x1
  generalize combosN q.src.xs db = rows at *
  have HFI : Hid ((rows.filter (holdsB q.wh)).length ≤ 1000000 ∧ (∀ r ∈ rows.filter (holdsB q.wh), allB q.keys.xs r.length = true) ∧ (∀ r ∈ rows.filter (holdsB q.wh), allB q.sums.xs r.length = true) ∧ ∀ r ∈ rows.filter (holdsB q.wh), ∀ v ∈ r, smallI v) :=
    ⟨Nat.le_trans (List.length_filter_le _ _) HCL.out, fun r hr => HKI.out r (List.mem_filter.1 hr).1, fun r hr => HIN.out r (List.mem_filter.1 hr).1, fun r hr => HSM.out r (List.mem_filter.1 hr).1⟩
  generalize hpp : holdsB q.wh = p at *
  obtain ⟨⟨sad, scap, src⟩, wad, wcap, wh, group, ⟨kad, kcap, kxs⟩, ⟨uad, ucap, uxs⟩, ⟨lad, lcap, lxs⟩, ⟨oad, ocap, oxs⟩⟩ := q
  unfold QueryV.cells IntsV.val at *
  simp only at *
  subst ho
  subst hg
  clear hlz hpp
  obtain ⟨c0, c1, c2, c3, c4, c5, c6⟩ := HX.out
  have hw1' := hw1
  simp only [List.length_nil] at *
  go_enter Try.func40, Try.ntmps40
  go_wp2_with fail
  refine hcm.mono ?_
  rintro e w2 ⟨vc, rfl, hsc, hb2⟩
  have hfm := filter_make vc 53 #[.pointer (some ⟨w.heap.size, 0, none⟩)] rows p w2 hsc (enters_of Try.func53 (by kernel_rfl) rfl) (fun W x hW hx hm => HKE.out W x (hb2.trans (hW.mono hb2.size)) hx hm)
  obtain ⟨g2, lb2, rfl, _, _⟩ := id hsc
  clear hsc hcm
  go_wp2_with fail
  refine hfm.mono ?_
  rintro e w3 ⟨vf, rfl, hsf, hb3⟩
  clear hfm
  have hb13 : Below w1.heap.size w1 w3 := hb2.trans (hb3.mono hb2.size)
  have d0 := cell_below hb13 c0
  have d1 := cell_below hb13 c1
  have d2 := cell_below hb13 c2
  have d3 := cell_below hb13 c3
  have d4 := cell_below hb13 c4
  have d5 := cell_below hb13 c5
  have d6 := cell_below hb13 c6
  have hdr : Below w3.heap.size w3 w3.drew := (Below.refl _ _).drew
  have hou := HOU vf (rows.filter p) w3.drew (hsf.later hdr) (IntsAt.below (hb13.trans (hdr.mono hb13.size)) HKE1.out) (IntsAt.below (hb13.trans (hdr.mono hb13.size)) HSU.out) HKL.out HSL.out HFI.out.1 HFI.out.2.1 HFI.out.2.2.1 HFI.out.2.2.2
  obtain ⟨g3, lb3, rfl, _, _⟩ := id hsf
  have hfb : Below w.heap.size w w3.drew := (HB.out.trans (hb13.mono HB.out.size)).drew
  have FB : Hid (Below w.heap.size w w3.drew) := hfb
  clear hfb
  clear hsf hb13 hdr hb2 hb3 HOU HKE1 HSU HFI HIN HKI HSM HCL HKL HSL
  have har := fun (g : Nat) (lb : Array Value) (W : World) => arranged0_any g lb oad ocap W
  go_wp2
  go_region_with (first | (refine hou.mono ?_; rintro e w4 ⟨v4, rfl, hs4, hb4⟩; have e6 := cell_below hb4 d6; obtain ⟨g4, lb4, rfl, _, _⟩ := id hs4) | (refine (arranged0_any _ _ _ _ _).mono ?_; rintro e w5 ⟨rfl, rfl⟩))
  all_goals
    go_wp2
    go_ret
    exact ⟨_, rfl, hs4, FB.out.trans (hb4.mono FB.out.size)⟩

end Go.Proofs.Ytlpbelhfpoilpaa

