import Derived.Test.YtpkihnafdaedoaaWhole
import Derived.Test.YtpkihnafdaedoaaProgH
import Derived.Test.YtpkihnafdaedoaaRefE
namespace Go.Proofs.Ytpkihnafdaedoaa
open Go.RowKit Go.Scout

theorem num_any (e : Int) (w : World) : Calls Try.prog 10 #[.int .i64 e] w fun r w' => r = .returned (.int .i64 e) ∧ w' = w := by
  go_enter Try.func10, Try.ntmps10
  go_wp2
  go_ret
  exact ⟨rfl, rfl⟩

set_option maxRecDepth 20000 in
set_option maxHeartbeats 16000000 in
theorem checks_any (ao : Option Addr) (cap : Nat) (ts : List TableD) (q : QueryV) (w : World) (hx : TablesAt w ao ts) (hq : q.At w) (hsz : ts.length * 48 ≤ 140737488351232)
    (z1 : q.src.xs.length * 8 ≤ 140737488351232) (z2 : q.keys.xs.length * 8 ≤ 140737488351232) (z3 : q.sums.xs.length * 8 ≤ 140737488351232) (z4 : q.sel.xs.length * 8 ≤ 140737488351232) (z5 : q.ord.xs.length * 8 ≤ 140737488351232)
    (z6 : q.wh.length * 24 ≤ 140737488351232) (z7 : ∀ i, i < q.wh.length → (q.wh.getD i lz).cs.length * 40 ≤ 140737488351232) :
    Calls Try.prog 3 #[.slice ao ts.length cap, .agg q.cells] w fun e w' => e = .returned (.bool true) ∧ Below w.heap.size w w' := by
  obtain ⟨w1, hw1⟩ : ∃ x, x = w.alloc (.cells q.cells 26) := ⟨_, rfl⟩
  have hk1 : Below w.heap.size w w1 := by rw [hw1]; exact below_alloc _ _
  have hbox : GB w1 w.heap.size 26 q.cells := by rw [hw1]; exact heap_alloc_new _ _
  have hGI := give0_any ao cap ts q w1 (hx.below hk1) (hq.below hk1) hsz z1 z2 z3 z4 z5 z6 z7
  have hRF := fun x (hb : Below w1.heap.size w1 x) => refCheck_any ao cap ts q x (hx.below (Below.step hk1 hb)) (hq.below (Below.step hk1 hb))
  have hX1 := hx.below hk1
  have hQ1 := hq.below hk1
  have hts := hx.1
  rw [hw1] at hGI
  have HK1 : Hid (Below w.heap.size w w1) := hk1
  have HW1 : Hid _ := hw1
  generalize hR : q.check ts = R at *
  clear hk1 hw1 hx hq hsz z1 z2 z3 z4 z5 z6 z7
  obtain ⟨⟨sa, sc, src⟩, wad, wcap, wh, group, ⟨ka, kc, keys⟩, ⟨ua, uc, sums⟩, ⟨ea, ec, sel⟩, ⟨oa, oc, ord⟩⟩ := q
  have hcells : (QueryV.mk ⟨sa, sc, src⟩ wad wcap wh group ⟨ka, kc, keys⟩ ⟨ua, uc, sums⟩ ⟨ea, ec, sel⟩ ⟨oa, oc, ord⟩).cells = #[.slice sa src.length sc, .slice wad wh.length wcap, .bool group, .slice ka keys.length kc, .slice ua sums.length uc, .slice ea sel.length ec, .slice oa ord.length oc] := rfl
  rw [hcells] at hGI hRF hbox ⊢
  go_enter Try.func3, Try.ntmps3
  go_wp2_with fail
  refine hGI.mono ?_
  clear hGI
  rintro e w2 ⟨G, bc, bf, bk, bu, be, bo, bw, bp, bd, v, A, k1, k2, s1, i1, s2, i2, rfl, h⟩
  rw [← hcells, ← HW1.out] at h
  have hSC := fun x (hb : Below w2.heap.size w2 x) => scoutCheck_any (some ⟨bc, 0, none⟩) (ts.length + 2) ts _ x ((tabsAt h.cat hts).below hb) ((Giv_query h hQ1).below hb) (by show keys.length ≤ keys.length + 2; omega) (by show ord.length ≤ ord.length + 2; omega)
  rw [lentQ_check, hR] at hSC
  have hlc : (lentQ (QueryV.mk ⟨sa, sc, src⟩ wad wcap wh group ⟨ka, kc, keys⟩ ⟨ua, uc, sums⟩ ⟨ea, ec, sel⟩ ⟨oa, oc, ord⟩) bf bk bu be bo bw A).cells = #[.slice (some ⟨bf, 0, none⟩) src.length (src.length + 2), .slice (some ⟨bw, 0, none⟩) wh.length (wh.length + 2), .bool group, .slice (some ⟨bk, 0, none⟩) keys.length (keys.length + 2), .slice (some ⟨bu, 0, none⟩) sums.length (sums.length + 2), .slice (some ⟨be, 0, none⟩) sel.length (sel.length + 2), .slice (some ⟨bo, 0, none⟩) ord.length (ord.length + 2)] := by
    show #[_, Value.slice _ (lentLs wh A).length _, _, _, _, _, _] = _
    rw [lentLs_len]
    rfl
  rw [hlc] at hSC
  have hWO := fun x (hb : Below w2.heap.size w2 x) => whole_true w1 x G ao cap ts _ bc bf bk bu be bo bw bp bd v A k1 k2 s1 i1 s2 i2 (Giv_below h hb) hX1 hQ1
  rw [hcells] at hWO
  have kb := h.bel
  have g0 : w2.cell? ⟨G, 0, none⟩ = some (.slice (some ⟨bc, 0, none⟩) ts.length (ts.length + 2)) := h.g.cell 0
  have g1 : w2.cell? ⟨G, 1, none⟩ = some (.slice (some ⟨bf, 0, none⟩) src.length (src.length + 2)) := h.g.cell 1
  have g2 : w2.cell? ⟨G, 2, none⟩ = some (.slice (some ⟨bw, 0, none⟩) wh.length (wh.length + 2)) := h.g.cell 2
  have g3 : w2.cell? ⟨G, 3, none⟩ = some (.bool group) := h.g.cell 3
  have g4 : w2.cell? ⟨G, 4, none⟩ = some (.slice (some ⟨bk, 0, none⟩) keys.length (keys.length + 2)) := h.g.cell 4
  have g5 : w2.cell? ⟨G, 5, none⟩ = some (.slice (some ⟨bu, 0, none⟩) sums.length (sums.length + 2)) := h.g.cell 5
  have g6 : w2.cell? ⟨G, 6, none⟩ = some (.slice (some ⟨be, 0, none⟩) sel.length (sel.length + 2)) := h.g.cell 6
  have g7 : w2.cell? ⟨G, 7, none⟩ = some (.slice (some ⟨bo, 0, none⟩) ord.length (ord.length + 2)) := h.g.cell 7
  have x0 : w2.cell? ⟨w.heap.size, 0, none⟩ = some (.slice sa src.length sc) := cell_below kb (hbox.cell 0)
  have x1 : w2.cell? ⟨w.heap.size, 1, none⟩ = some (.slice wad wh.length wcap) := cell_below kb (hbox.cell 1)
  have x2 : w2.cell? ⟨w.heap.size, 2, none⟩ = some (.bool group) := cell_below kb (hbox.cell 2)
  have x3 : w2.cell? ⟨w.heap.size, 3, none⟩ = some (.slice ka keys.length kc) := cell_below kb (hbox.cell 3)
  have x4 : w2.cell? ⟨w.heap.size, 4, none⟩ = some (.slice ua sums.length uc) := cell_below kb (hbox.cell 4)
  have x5 : w2.cell? ⟨w.heap.size, 5, none⟩ = some (.slice ea sel.length ec) := cell_below kb (hbox.cell 5)
  have x6 : w2.cell? ⟨w.heap.size, 6, none⟩ = some (.slice oa ord.length oc) := cell_below kb (hbox.cell 6)
  clear h hlc hbox hX1 hQ1 hcells HW1 hR
  go_wp2_with fail
  refine wp_region_below (by kernel_rfl) (by kernel_rfl) ?_
  go_big_quiet_want
  refine ⟨.pointer (some ⟨G, 0, none⟩), fun x hx => ?_, ?_⟩
  · go_simp
  simp only [Act.put, List.setIfInBounds_toArray, List.set_cons_succ, List.set_cons_zero]
  go_big_quiet_on
  go_big_quiet_want
  refine ⟨.pointer (some ⟨G, 0, none⟩), fun x hx => ?_, ?_⟩
  · go_simp
  simp only [Act.put, List.setIfInBounds_toArray, List.set_cons_succ, List.set_cons_zero]
  go_big_quiet_on
  go_big_quiet_want
  refine ⟨.pointer (some ⟨G, 0, none⟩), fun x hx => ?_, ?_⟩
  · go_simp
  simp only [Act.put, List.setIfInBounds_toArray, List.set_cons_succ, List.set_cons_zero]
  go_big_quiet_on
  go_big_quiet_want
  refine ⟨.slice (some ⟨bc, 0, none⟩) ts.length (ts.length + 2), fun x hx => ?_, ?_⟩
  · have e := cell_below hx g0
    go_simp
  simp only [Act.put, List.setIfInBounds_toArray, List.set_cons_succ, List.set_cons_zero]
  go_big_quiet_on
  go_big_quiet_want
  refine ⟨.pointer (some ⟨G, 0, none⟩), fun x hx => ?_, ?_⟩
  · go_simp
  simp only [Act.put, List.setIfInBounds_toArray, List.set_cons_succ, List.set_cons_zero]
  go_big_quiet_on
  go_big_quiet_want
  refine ⟨.pointer (some ⟨G, 0, none⟩), fun x hx => ?_, ?_⟩
  · go_simp
  simp only [Act.put, List.setIfInBounds_toArray, List.set_cons_succ, List.set_cons_zero]
  go_big_quiet_on
  go_big_quiet_want
  refine ⟨.pointer (some ⟨G, 1, none⟩), fun x hx => ?_, ?_⟩
  · go_simp
  simp only [Act.put, List.setIfInBounds_toArray, List.set_cons_succ, List.set_cons_zero]
  go_big_quiet_on
  go_big_quiet_want
  refine ⟨.agg #[.slice (some ⟨bf, 0, none⟩) src.length (src.length + 2), .slice (some ⟨bw, 0, none⟩) wh.length (wh.length + 2), .bool group, .slice (some ⟨bk, 0, none⟩) keys.length (keys.length + 2), .slice (some ⟨bu, 0, none⟩) sums.length (sums.length + 2), .slice (some ⟨be, 0, none⟩) sel.length (sel.length + 2), .slice (some ⟨bo, 0, none⟩) ord.length (ord.length + 2)], fun x hx => ?_, ?_⟩
  · have e1 := cell_below hx g1
    have e2 := cell_below hx g2
    have e3 := cell_below hx g3
    have e4 := cell_below hx g4
    have e5 := cell_below hx g5
    have e6 := cell_below hx g6
    have e7 := cell_below hx g7
    go_simp
  simp only [Act.put, List.setIfInBounds_toArray, List.set_cons_succ, List.set_cons_zero]
  go_big_quiet_on
  go_big_quiet_want
  refine ⟨.int .i64 R, fun x hx => ?_, ?_⟩
  · have hC := Calls.within hx (hSC x hx)
    go_simp
  simp only [Act.put, List.setIfInBounds_toArray, List.set_cons_succ, List.set_cons_zero]
  go_big_quiet_on
  go_big_quiet_want
  refine ⟨.int .i64 R, fun x hx => ?_, ?_⟩
  · go_simp
  simp only [Act.put, List.setIfInBounds_toArray, List.set_cons_succ, List.set_cons_zero]
  go_big_quiet_on
  refine wpQuiet_nil ?_
  intro w3 hb3
  clear hSC g0 g1 g2 g3 g4 g5 g6 g7
  have y0 := cell_below hb3 x0
  have y1 := cell_below hb3 x1
  have y2 := cell_below hb3 x2
  have y3 := cell_below hb3 x3
  have y4 := cell_below hb3 x4
  have y5 := cell_below hb3 x5
  have y6 := cell_below hb3 x6
  go_wp2_with fail
  refine (hRF _ (Below.step kb hb3)).mono ?_
  clear hRF y0 y1 y2 y3 y4 y5 y6
  rintro e w4 ⟨rfl, hb4⟩
  have kd := Below.step hb3 hb4
  clear hb3 hb4
  have y0 := cell_below kd x0
  have y1 := cell_below kd x1
  have y2 := cell_below kd x2
  have y3 := cell_below kd x3
  have y4 := cell_below kd x4
  have y5 := cell_below kd x5
  have y6 := cell_below kd x6
  go_wp2_with fail
  refine (hWO _ kd).mono ?_
  clear hWO y0 y1 y2 y3 y4 y5 y6 x0 x1 x2 x3 x4 x5 x6
  rintro e w5 ⟨rfl, hb5⟩
  go_wp2_with fail
  refine (num_any R _).mono ?_
  rintro e w6 ⟨rfl, rfl⟩
  have hRR : (R == R) = true := by simp
  go_wp2
  go_ret
  exact ⟨rfl, Below.step HK1.out (Below.step kb (Below.step kd hb5))⟩

end Go.Proofs.Ytpkihnafdaedoaa
