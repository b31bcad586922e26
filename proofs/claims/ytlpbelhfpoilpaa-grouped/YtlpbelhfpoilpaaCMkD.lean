import Derived.RegionTactic
import Derived.RegionCalls
import Derived.Test.YtlpbelhfpoilpaaCTruBMkBMkC
set_option linter.all false
namespace Go.Proofs.Ytlpbelhfpoilpaa
open Go.RowKit Go.Scout Go.Shelf

set_option maxRecDepth 20000 in
set_option maxHeartbeats 8000000 in
/-- answer, where nothing is grouped and no order asked. -/
theorem answerP_any (q : QueryV) (d : Option Addr) (dcap : Nat) (db : List RowsV) (w : World) (hg : q.group = false) (ho : q.ord.xs = []) (hq : q.At w) (hdb : DbHad w d db) (h1 : 0 < q.src.xs.length) (h5 : q.src.xs.length ≤ 5) (hcp : q.src.xs.length ≤ q.src.cap) (ha : allB q.src.xs db.length = true)
    (hrow : ∀ t, ∀ r ∈ tabN db t, r.length ≤ 100) (hlen : ∀ t, (tabN db t).length ≤ 1000000)
    (hcs : ∀ r ∈ combosN q.src.xs db, ∀ i, i < q.wh.length → ∀ k, k < (q.wh.getD i lz).cs.length → condB ((q.wh.getD i lz).cs.getD k cz) r.length = true)
    (hsl : q.sel.xs.length ≤ 1000) (hin : ∀ r ∈ combosN q.src.xs db, allB q.sel.xs r.length = true) :
    Calls Try.prog 40 #[.agg q.cells, .slice d db.length dcap] w fun e w' => ∃ v, e = .returned v ∧ SeqV (ownEl 3) Try.prog v (((combosN q.src.xs db).filter (holdsB q.wh)).map fun r => pickN r q.sel.xs) w' ∧ Below w.heap.size w w' := by
  have hb := below_alloc w (.cells q.cells 26)
  have hcm := combinations_any q.src d dcap db _ (IntsAt.below hb hq.src) (hdb.below hb) h1 h5 hcp ha hrow hlen
  have HQ : Hid _ := hq
  have HB : Hid _ := hb
  have HCS : Hid _ := hcs
  have HSL : Hid _ := hsl
  have HIN : Hid _ := hin
  obtain ⟨w1, hw1⟩ : ∃ w1, w.alloc (.cells q.cells 26) = w1 := ⟨_, rfl⟩
  have x1 : w1.cell? ⟨w.heap.size, 1, none⟩ = some (.slice q.wad q.wh.length q.wcap) := by rw [← hw1]; unfold QueryV.cells; simp
  have HX : Hid (w1.cell? ⟨w.heap.size, 0, none⟩ = some q.src.val ∧ w1.cell? ⟨w.heap.size, 1, none⟩ = some (.slice q.wad q.wh.length q.wcap) ∧ w1.cell? ⟨w.heap.size, 2, none⟩ = some (.bool q.group) ∧ w1.cell? ⟨w.heap.size, 3, none⟩ = some q.keys.val ∧ w1.cell? ⟨w.heap.size, 4, none⟩ = some q.sums.val ∧ w1.cell? ⟨w.heap.size, 5, none⟩ = some q.sel.val ∧ w1.cell? ⟨w.heap.size, 6, none⟩ = some q.ord.val) := by
    rw [← hw1]; unfold QueryV.cells; refine ⟨?_, ?_, ?_, ?_, ?_, ?_, ?_⟩ <;> simp
  rw [hw1] at HB hcm
  have HOU := fun (vi : Value) (rows : List (List Int)) (W : World) => outputP_any vi q rows W hg
  clear hb hdb h1 h5 hcp ha hrow hlen hcs hsl hin hq
  have hlz : q.ord.xs.length = 0 := by rw [ho]; rfl
  have hcl : ClausesAt w1 q.wad q.wh := HQ.out.wh.below HB.out
  have hsel : q.sel.At w1 := IntsAt.below HB.out HQ.out.sel
  have HSE : Hid _ := hsel
  have HKE : Hid (∀ W x, Below w1.heap.size w1 W → IntsV.At x W → x.xs ∈ combosN q.src.xs db → Calls Try.prog 53 (#[x.val] ++ #[.pointer (some ⟨w.heap.size, 0, none⟩)]) W fun e W' => e = .returned (.bool (holdsB q.wh x.xs)) ∧ Below W.heap.size W W') := fun W x hW hx hm =>
    keep_any q w.heap.size x.ad x.cap x.xs W (cell_below hW x1) hx (hcl.below hW) (HCS.out _ hm)
  clear hcl hsel x1
  generalize combosN q.src.xs db = rows at *
  have hfin : ∀ r ∈ rows.filter (holdsB q.wh), allB q.sel.xs r.length = true := fun r hr => HIN.out r (List.mem_filter.1 hr).1
  have HFI : Hid _ := hfin
  clear hfin
  generalize hpp : holdsB q.wh = p at *
  obtain ⟨⟨sad, scap, src⟩, wad, wcap, wh, group, keys, sums, ⟨lad, lcap, lxs⟩, ⟨oad, ocap, oxs⟩⟩ := q
  unfold QueryV.cells IntsV.val at *
  simp only at *
  subst ho
  subst hg
  clear hlz hpp
  obtain ⟨c0, c1, c2, c3, c4, c5, c6⟩ := HX.out
  have hw1' := hw1
  simp only [List.length_nil] at *
  go_enter Try.func40, Try.ntmps40
  go_wp2_with fail
  refine hcm.mono ?_
  rintro e w2 ⟨vc, rfl, hsc, hb2⟩
  have hfm := filter_make vc 53 #[.pointer (some ⟨w.heap.size, 0, none⟩)] rows p w2 hsc (enters_of Try.func53 (by kernel_rfl) rfl) (fun W x hW hx hm => HKE.out W x (hb2.trans (hW.mono hb2.size)) hx hm)
  obtain ⟨g2, lb2, rfl, _, _⟩ := id hsc
  clear hsc hcm
  go_wp2_with fail
  refine hfm.mono ?_
  rintro e w3 ⟨vf, rfl, hsf, hb3⟩
  clear hfm
  have hb13 : Below w1.heap.size w1 w3 := hb2.trans (hb3.mono hb2.size)
  have d0 := cell_below hb13 c0
  have d1 := cell_below hb13 c1
  have d2 := cell_below hb13 c2
  have d3 := cell_below hb13 c3
  have d4 := cell_below hb13 c4
  have d5 := cell_below hb13 c5
  have d6 := cell_below hb13 c6
  have hdr : Below w3.heap.size w3 w3.drew := (Below.refl _ _).drew
  have hou := HOU vf (rows.filter p) w3.drew (hsf.later hdr) (IntsAt.below (hb13.trans (hdr.mono hb13.size)) HSE.out) HSL.out HFI.out
  obtain ⟨g3, lb3, rfl, _, _⟩ := id hsf
  have hfb : Below w.heap.size w w3.drew := (HB.out.trans (hb13.mono HB.out.size)).drew
  have FB : Hid (Below w.heap.size w w3.drew) := hfb
  clear hfb
  clear hsf hb13 hdr hb2 hb3 HOU HSE HFI HIN
  have har := fun (g : Nat) (lb : Array Value) (W : World) => arranged0_any g lb oad ocap W
  go_wp2
  go_region_with (first | (refine hou.mono ?_; rintro e w4 ⟨v4, rfl, hs4, hb4⟩; have e6 := cell_below hb4 d6; obtain ⟨g4, lb4, rfl, _, _⟩ := id hs4) | (refine (arranged0_any _ _ _ _ _).mono ?_; rintro e w5 ⟨rfl, rfl⟩))
  all_goals
    go_wp2
    go_ret
    exact ⟨_, rfl, hs4, FB.out.trans (hb4.mono FB.out.size)⟩

end Go.Proofs.Ytlpbelhfpoilpaa

