import Derived.Test.YtlpbelhfpoilpaaProg
import Derived.ProofKit
import Derived.OpenShut
import Derived.Deep.Slices
import Derived.SizedLaws
import Derived.Test.YtlpbelhfpoilpaaCBaseBase2Base3Base4
import Derived.Test.YtlpbelhfpoilpaaCLentQWholeProgAProgB
import Derived.Test.YtlpbelhfpoilpaaCProgFProgGProgHAll
import Derived.Test.YtlpbelhfpoilpaaCRefB
import Derived.Test.YtlpbelhfpoilpaaCRefC
import Derived.Test.YtlpbelhfpoilpaaCRefD
set_option linter.all false
namespace Go.Proofs.Ytlpbelhfpoilpaa
open Go.RowKit Go.Scout

theorem refCheck_any (ao : Option Addr) (cap : Nat) (ts : List TableD) (q : QueryV) (w : World) (hx : TablesAt w ao ts) (hq : q.At w) :
    Calls Try.prog 8 #[.slice ao ts.length cap, .agg q.cells] w fun e w' => e = .returned (.int .i64 (q.check ts)) ∧ Below w.heap.size w w' := by
  cases hc : catB ts
  · exact ref_nocat ao cap ts q w hx hc
  · by_cases hf : 5 < q.src.xs.length ∨ 8 < q.wh.length ∨ 8 < q.sel.xs.length ∨ 4 < q.keys.xs.length ∨ 4 < q.sums.xs.length ∨ 4 < q.ord.xs.length
    · exact ref_full1 ao cap ts q w hx hq hc hf
    · cases hw : wideB q.wh q.wh.length
      · exact ref_main ao cap ts q w hx hq hc hf hw
      · exact ref_full2 ao cap ts q w hx hq hc hf hw

end Go.Proofs.Ytlpbelhfpoilpaa

namespace Go.Proofs.Ytlpbelhfpoilpaa
open Go.RowKit Go.Scout

theorem num_any (e : Int) (w : World) : Calls Try.prog 10 #[.int .i64 e] w fun r w' => r = .returned (.int .i64 e) ∧ w' = w := by
  go_enter Try.func10, Try.ntmps10
  go_wp2
  go_ret
  exact ⟨rfl, rfl⟩

set_option maxRecDepth 20000 in
set_option maxHeartbeats 16000000 in
theorem checks_any (ao : Option Addr) (cap : Nat) (ts : List TableD) (q : QueryV) (w : World) (hx : TablesAt w ao ts) (hq : q.At w) (hsz : ts.length * 48 ≤ 140737488351232)
    (z1 : q.src.xs.length * 8 ≤ 140737488351232) (z2 : q.keys.xs.length * 8 ≤ 140737488351232) (z3 : q.sums.xs.length * 8 ≤ 140737488351232) (z4 : q.sel.xs.length * 8 ≤ 140737488351232) (z5 : q.ord.xs.length * 8 ≤ 140737488351232)
    (z6 : q.wh.length * 24 ≤ 140737488351232) (z7 : ∀ i, i < q.wh.length → (q.wh.getD i lz).cs.length * 40 ≤ 140737488351232) :
    Calls Try.prog 3 #[.slice ao ts.length cap, .agg q.cells] w fun e w' => e = .returned (.bool true) ∧ Below w.heap.size w w' := by
  obtain ⟨w1, hw1⟩ : ∃ x, x = w.alloc (.cells q.cells 26) := ⟨_, rfl⟩
  have hk1 : Below w.heap.size w w1 := by rw [hw1]; exact below_alloc _ _
  have hbox : GB w1 w.heap.size 26 q.cells := by rw [hw1]; exact heap_alloc_new _ _
  have hGI := give0_any ao cap ts q w1 (hx.below hk1) (hq.below hk1) hsz z1 z2 z3 z4 z5 z6 z7
  have hRF := fun x (hb : Below w1.heap.size w1 x) => refCheck_any ao cap ts q x (hx.below (Below.step hk1 hb)) (hq.below (Below.step hk1 hb))
  have hX1 := hx.below hk1
  have hQ1 := hq.below hk1
  have hts := hx.1
  rw [hw1] at hGI
  have HK1 : Hid (Below w.heap.size w w1) := hk1
  have HW1 : Hid _ := hw1
  generalize hR : q.check ts = R at *
  clear hk1 hw1 hx hq hsz z1 z2 z3 z4 z5 z6 z7
  obtain ⟨⟨sa, sc, src⟩, wad, wcap, wh, group, ⟨ka, kc, keys⟩, ⟨ua, uc, sums⟩, ⟨ea, ec, sel⟩, ⟨oa, oc, ord⟩⟩ := q
  have hcells : (QueryV.mk ⟨sa, sc, src⟩ wad wcap wh group ⟨ka, kc, keys⟩ ⟨ua, uc, sums⟩ ⟨ea, ec, sel⟩ ⟨oa, oc, ord⟩).cells = #[.slice sa src.length sc, .slice wad wh.length wcap, .bool group, .slice ka keys.length kc, .slice ua sums.length uc, .slice ea sel.length ec, .slice oa ord.length oc] := rfl
  rw [hcells] at hGI hRF hbox ⊢
  go_enter Try.func3, Try.ntmps3
  go_wp2_with fail
  refine hGI.mono ?_
  clear hGI
  rintro e w2 ⟨G, bc, bf, bk, bu, be, bo, bw, bp, bd, v, A, k1, k2, s1, i1, s2, i2, rfl, h⟩
  rw [← hcells, ← HW1.out] at h
  have hSC := fun x (hb : Below w2.heap.size w2 x) => scoutCheck_any (some ⟨bc, 0, none⟩) (ts.length + 2) ts _ x ((tabsAt h.cat hts).below hb) ((Giv_query h hQ1).below hb) (by show keys.length ≤ keys.length + 2; omega) (by show ord.length ≤ ord.length + 2; omega)
  rw [lentQ_check, hR] at hSC
  have hlc : (lentQ (QueryV.mk ⟨sa, sc, src⟩ wad wcap wh group ⟨ka, kc, keys⟩ ⟨ua, uc, sums⟩ ⟨ea, ec, sel⟩ ⟨oa, oc, ord⟩) bf bk bu be bo bw A).cells = #[.slice (some ⟨bf, 0, none⟩) src.length (src.length + 2), .slice (some ⟨bw, 0, none⟩) wh.length (wh.length + 2), .bool group, .slice (some ⟨bk, 0, none⟩) keys.length (keys.length + 2), .slice (some ⟨bu, 0, none⟩) sums.length (sums.length + 2), .slice (some ⟨be, 0, none⟩) sel.length (sel.length + 2), .slice (some ⟨bo, 0, none⟩) ord.length (ord.length + 2)] := by
    show #[_, Value.slice _ (lentLs wh A).length _, _, _, _, _, _] = _
    rw [lentLs_len]
    rfl
  rw [hlc] at hSC
  have hWO := fun x (hb : Below w2.heap.size w2 x) => whole_true w1 x G ao cap ts _ bc bf bk bu be bo bw bp bd v A k1 k2 s1 i1 s2 i2 (Giv_below h hb) hX1 hQ1
  rw [hcells] at hWO
  have kb := h.bel
  have g0 : w2.cell? ⟨G, 0, none⟩ = some (.slice (some ⟨bc, 0, none⟩) ts.length (ts.length + 2)) := h.g.cell 0
  have g1 : w2.cell? ⟨G, 1, none⟩ = some (.slice (some ⟨bf, 0, none⟩) src.length (src.length + 2)) := h.g.cell 1
  have g2 : w2.cell? ⟨G, 2, none⟩ = some (.slice (some ⟨bw, 0, none⟩) wh.length (wh.length + 2)) := h.g.cell 2
  have g3 : w2.cell? ⟨G, 3, none⟩ = some (.bool group) := h.g.cell 3
  have g4 : w2.cell? ⟨G, 4, none⟩ = some (.slice (some ⟨bk, 0, none⟩) keys.length (keys.length + 2)) := h.g.cell 4
  have g5 : w2.cell? ⟨G, 5, none⟩ = some (.slice (some ⟨bu, 0, none⟩) sums.length (sums.length + 2)) := h.g.cell 5
  have g6 : w2.cell? ⟨G, 6, none⟩ = some (.slice (some ⟨be, 0, none⟩) sel.length (sel.length + 2)) := h.g.cell 6
  have g7 : w2.cell? ⟨G, 7, none⟩ = some (.slice (some ⟨bo, 0, none⟩) ord.length (ord.length + 2)) := h.g.cell 7
  have x0 : w2.cell? ⟨w.heap.size, 0, none⟩ = some (.slice sa src.length sc) := cell_below kb (hbox.cell 0)
  have x1 : w2.cell? ⟨w.heap.size, 1, none⟩ = some (.slice wad wh.length wcap) := cell_below kb (hbox.cell 1)
  have x2 : w2.cell? ⟨w.heap.size, 2, none⟩ = some (.bool group) := cell_below kb (hbox.cell 2)
  have x3 : w2.cell? ⟨w.heap.size, 3, none⟩ = some (.slice ka keys.length kc) := cell_below kb (hbox.cell 3)
  have x4 : w2.cell? ⟨w.heap.size, 4, none⟩ = some (.slice ua sums.length uc) := cell_below kb (hbox.cell 4)
  have x5 : w2.cell? ⟨w.heap.size, 5, none⟩ = some (.slice ea sel.length ec) := cell_below kb (hbox.cell 5)
  have x6 : w2.cell? ⟨w.heap.size, 6, none⟩ = some (.slice oa ord.length oc) := cell_below kb (hbox.cell 6)
  clear h hlc hbox hX1 hQ1 hcells HW1 hR
  go_wp2_with fail
  refine wp_region_below (by kernel_rfl) (by kernel_rfl) ?_
  go_big_quiet_want
  refine ⟨.pointer (some ⟨G, 0, none⟩), fun x hx => ?_, ?_⟩
  · go_simp
  simp only [Act.put, List.setIfInBounds_toArray, List.set_cons_succ, List.set_cons_zero]
  go_big_quiet_on
  go_big_quiet_want
  refine ⟨.pointer (some ⟨G, 0, none⟩), fun x hx => ?_, ?_⟩
  · go_simp
  simp only [Act.put, List.setIfInBounds_toArray, List.set_cons_succ, List.set_cons_zero]
  go_big_quiet_on
  go_big_quiet_want
  refine ⟨.pointer (some ⟨G, 0, none⟩), fun x hx => ?_, ?_⟩
  · go_simp
  simp only [Act.put, List.setIfInBounds_toArray, List.set_cons_succ, List.set_cons_zero]
  go_big_quiet_on
  go_big_quiet_want
  refine ⟨.slice (some ⟨bc, 0, none⟩) ts.length (ts.length + 2), fun x hx => ?_, ?_⟩
  · have e := cell_below hx g0
    go_simp
  simp only [Act.put, List.setIfInBounds_toArray, List.set_cons_succ, List.set_cons_zero]
  go_big_quiet_on
  go_big_quiet_want
  refine ⟨.pointer (some ⟨G, 0, none⟩), fun x hx => ?_, ?_⟩
  · go_simp
  simp only [Act.put, List.setIfInBounds_toArray, List.set_cons_succ, List.set_cons_zero]
  go_big_quiet_on
  go_big_quiet_want
  refine ⟨.pointer (some ⟨G, 0, none⟩), fun x hx => ?_, ?_⟩
  · go_simp
  simp only [Act.put, List.setIfInBounds_toArray, List.set_cons_succ, List.set_cons_zero]
  go_big_quiet_on
  go_big_quiet_want
  refine ⟨.pointer (some ⟨G, 1, none⟩), fun x hx => ?_, ?_⟩
  · go_simp
  simp only [Act.put, List.setIfInBounds_toArray, List.set_cons_succ, List.set_cons_zero]
  go_big_quiet_on
  go_big_quiet_want
  refine ⟨.agg #[.slice (some ⟨bf, 0, none⟩) src.length (src.length + 2), .slice (some ⟨bw, 0, none⟩) wh.length (wh.length + 2), .bool group, .slice (some ⟨bk, 0, none⟩) keys.length (keys.length + 2), .slice (some ⟨bu, 0, none⟩) sums.length (sums.length + 2), .slice (some ⟨be, 0, none⟩) sel.length (sel.length + 2), .slice (some ⟨bo, 0, none⟩) ord.length (ord.length + 2)], fun x hx => ?_, ?_⟩
  · have e1 := cell_below hx g1
    have e2 := cell_below hx g2
    have e3 := cell_below hx g3
    have e4 := cell_below hx g4
    have e5 := cell_below hx g5
    have e6 := cell_below hx g6
    have e7 := cell_below hx g7
    go_simp
  simp only [Act.put, List.setIfInBounds_toArray, List.set_cons_succ, List.set_cons_zero]
  go_big_quiet_on
  go_big_quiet_want
  refine ⟨.int .i64 R, fun x hx => ?_, ?_⟩
  · have hC := Calls.within hx (hSC x hx)
    go_simp
  simp only [Act.put, List.setIfInBounds_toArray, List.set_cons_succ, List.set_cons_zero]
  go_big_quiet_on
  go_big_quiet_want
  refine ⟨.int .i64 R, fun x hx => ?_, ?_⟩
  · go_simp
  simp only [Act.put, List.setIfInBounds_toArray, List.set_cons_succ, List.set_cons_zero]
  go_big_quiet_on
  refine wpQuiet_nil ?_
  intro w3 hb3
  clear hSC g0 g1 g2 g3 g4 g5 g6 g7
  have y0 := cell_below hb3 x0
  have y1 := cell_below hb3 x1
  have y2 := cell_below hb3 x2
  have y3 := cell_below hb3 x3
  have y4 := cell_below hb3 x4
  have y5 := cell_below hb3 x5
  have y6 := cell_below hb3 x6
  go_wp2_with fail
  refine (hRF _ (Below.step kb hb3)).mono ?_
  clear hRF y0 y1 y2 y3 y4 y5 y6
  rintro e w4 ⟨rfl, hb4⟩
  have kd := Below.step hb3 hb4
  clear hb3 hb4
  have y0 := cell_below kd x0
  have y1 := cell_below kd x1
  have y2 := cell_below kd x2
  have y3 := cell_below kd x3
  have y4 := cell_below kd x4
  have y5 := cell_below kd x5
  have y6 := cell_below kd x6
  go_wp2_with fail
  refine (hWO _ kd).mono ?_
  clear hWO y0 y1 y2 y3 y4 y5 y6 x0 x1 x2 x3 x4 x5 x6
  rintro e w5 ⟨rfl, hb5⟩
  go_wp2_with fail
  refine (num_any R _).mono ?_
  rintro e w6 ⟨rfl, rfl⟩
  have hRR : (R == R) = true := by simp
  go_wp2
  go_ret
  exact ⟨rfl, Below.step HK1.out (Below.step kb (Below.step kd hb5))⟩

end Go.Proofs.Ytlpbelhfpoilpaa

namespace Go.Proofs.Ytlpbelhfpoilpaa
open Go.RowKit Go.Scout Go.Deep Go.ChangeShapes Go.WideShapes Go.ChangeAt

theorem Try.cells3 : Try.prog.cellsOf 3 = 1 := by kernel_rfl
theorem Try.cells4 : Try.prog.cellsOf 4 = 1 := by kernel_rfl
theorem Try.cells23 : Try.prog.cellsOf 23 = 1 := by kernel_rfl
theorem Try.cells47 : Try.prog.cellsOf 47 = 1 := by kernel_rfl
theorem Try.cells24 : Try.prog.cellsOf 24 = 1 := by kernel_rfl
theorem Try.cells68 : Try.prog.cellsOf 68 = 1 := by kernel_rfl
theorem Try.cells58 : Try.prog.cellsOf 58 = 4 := by kernel_rfl
theorem Try.cells60 : Try.prog.cellsOf 60 = 6 := by kernel_rfl
theorem Try.cells46 : Try.prog.cellsOf 46 = 5 := by kernel_rfl
theorem Try.cells26 : Try.prog.cellsOf 26 = 7 := by kernel_rfl
theorem Try.bytes3 : Try.prog.bytesOf 3 = 8 := by kernel_rfl
theorem Try.bytes60 : Try.prog.bytesOf 60 = 48 := by kernel_rfl
theorem Try.bytes46 : Try.prog.bytesOf 46 = 40 := by kernel_rfl
theorem Try.bytes68 : Try.prog.bytesOf 68 = 24 := by kernel_rfl

variable {H : Type} {enc : TypeId × Value → H} {w : World} {spare : Nat → Bool} {held : Bool} {fuel : Nat}

theorem addr_none {a : Addr} {v : Value} (h : w.cell? (a.add 0) = some v) : ∃ b off, a = ⟨b, off, none⟩ := by
  obtain ⟨b, off, spot⟩ := a
  have hs : spot = none := by
    have := World.cell?_spot h
    simpa [Addr.add] using this
  subst hs
  exact ⟨b, off, rfl⟩

theorem addr_add' (b off j : Nat) : (⟨b, off, none⟩ : Addr).add j = ⟨b, off + j, none⟩ := by unfold Addr.add; split <;> simp_all

theorem openInts {v : Value} {x : DataW H × List MemPlace} (h : DataW.trod enc Try.prog w 0 spare held fuel 23 [v] = some x) (hw : ∀ n ∈ x.1.weights Try.prog 23, n ≤ reachBytes) :
    ∃ iv : IntsV, v = iv.val ∧ iv.At w ∧ iv.xs.length * 8 ≤ 140737488351232 := by
  rcases open_ints Try.underlying23 Try.underlying3 Try.cells3 h with ⟨hcs, _⟩ | ⟨a, len, cap, zs, hcs, _, hl, hm, hz, hx, hcell, _⟩
  · simp at hcs
    subst hcs
    exact ⟨⟨none, 0, []⟩, rfl, ⟨by simp, fun i hi => absurd hi (by simp)⟩, by simp⟩
  · simp at hcs
    subst hcs
    have hlz : len ≤ zs.length := by rw [hz]; split <;> omega
    have hlen : (zs.take len).length = len := by rw [List.length_take]; omega
    have hb : len * 8 ≤ 140737488351232 := by
      have h2 := hw (((lits IntKind.i64 (zs.take len) : List (DataW H)).length + (lits IntKind.i64 (zs.drop len) : List (DataW H)).length) * Try.prog.bytesOf 3) (by rw [hx]; simp [DataW.weights, Try.underlying23])
      rw [Try.bytes3] at h2
      simp only [lits, List.length_map, List.length_take, List.length_drop, reachBytes] at h2
      omega
    refine ⟨⟨some a, cap, zs.take len⟩, ?_, ⟨by show (zs.take len).length ≤ _; omega, fun i hi => ?_⟩, ?_⟩
    · show _ = Value.slice (some a) (zs.take len).length cap
      rw [hlen]
    · have hi' : i < len := by
        have : i < (zs.take len).length := hi
        omega
      have hc := hcell i (by omega)
      obtain ⟨b, off, rfl⟩ := addr_none (hcell 0 (by omega))
      refine ⟨b, off, rfl, ?_⟩
      rw [addr_add'] at hc
      rw [hc]
      simp [List.getD, hi']
    · show (zs.take len).length * 8 ≤ _
      omega

theorem list3 {α : Type} {l : List α} (h : l.length = 3) : ∃ a b c, l = [a, b, c] := by
  match l, h with
  | [a, b, c], _ => exact ⟨a, b, c, rfl⟩
theorem list4 {α : Type} {l : List α} (h : l.length = 4) : ∃ a b c d, l = [a, b, c, d] := by
  match l, h with
  | [a, b, c, d], _ => exact ⟨a, b, c, d, rfl⟩
theorem list5 {α : Type} {l : List α} (h : l.length = 5) : ∃ a b c d e, l = [a, b, c, d, e] := by
  match l, h with
  | [a, b, c, d, e], _ => exact ⟨a, b, c, d, e, rfl⟩
theorem list6 {α : Type} {l : List α} (h : l.length = 6) : ∃ a b c d e f, l = [a, b, c, d, e, f] := by
  match l, h with
  | [a, b, c, d, e, f], _ => exact ⟨a, b, c, d, e, f, rfl⟩
theorem list7 {α : Type} {l : List α} (h : l.length = 7) : ∃ a b c d e f g, l = [a, b, c, d, e, f, g] := by
  match l, h with
  | [a, b, c, d, e, f, g], _ => exact ⟨a, b, c, d, e, f, g, rfl⟩

theorem getD_range {α : Type} (f : Nat → α) (n i : Nat) (z : α) (h : i < n) : ((List.range n).map f).getD i z = f i := by simp [List.getD, h]

theorem openTables {v : Value} {x : DataW H × List MemPlace} (h : DataW.trod enc Try.prog w 0 spare held fuel 22 [v] = some x) (hw : ∀ n ∈ x.1.weights Try.prog 22, n ≤ reachBytes) :
    ∃ ao cap ts, v = .slice ao (List.length ts) cap ∧ TablesAt w ao ts ∧ ts.length * 48 ≤ 140737488351232 := by
  rcases open_slice Try.underlying22 h with ⟨hcs, _⟩ | ⟨a, len, cap, m, n, D, Pl, hcs, _, hl, hm, hmm, hx, hel⟩
  · simp at hcs
    subst hcs
    exact ⟨none, 0, [], rfl, ⟨by simp, fun i hi => absurd hi (by simp)⟩, by simp⟩
  · simp at hcs
    subst hcs
    have hlm : len ≤ m := by rw [hmm]; split <;> omega
    have hb : len * 48 ≤ 140737488351232 := by
      have h2 := hw ((((List.range len).map D).length + ((List.range (m - len)).map fun j => D (len + j)).length) * Try.prog.bytesOf 60) (by rw [hx]; simp [DataW.weights, Try.underlying22])
      rw [Try.bytes60] at h2
      simp only [List.length_map, List.length_range, reachBytes] at h2
      omega
    have each : ∀ i, i < len → ∃ t : TableD, w.cell? ((a.add (i * 6)).add 0) = some (.int .i64 t.cols) ∧ w.cell? ((a.add (i * 6)).add 1) = some (.int .i64 t.rows) ∧ w.cell? ((a.add (i * 6)).add 2) = some (.int .i64 t.k0) ∧
        w.cell? ((a.add (i * 6)).add 3) = some (.int .i64 t.k1) ∧ w.cell? ((a.add (i * 6)).add 4) = some (.int .i64 t.k2) ∧ w.cell? ((a.add (i * 6)).add 5) = some (.int .i64 t.k3) := by
      intro i hi
      obtain ⟨cs', h1, h2⟩ := hel i (by omega)
      rw [Try.cells60] at h1
      obtain ⟨_, hlen, hcell⟩ := World.cells?_some h1
      obtain ⟨xs, k, hk, hxy, _, hxl, hf⟩ := DataW.trod_struct Try.underlying60 h2
      obtain ⟨y0, y1, y2, rfl⟩ := list3 hxl
      obtain ⟨v0, v1, v2, v3, v4, v5, rfl⟩ := list6 hlen
      · skip
        have q0 := hf 0 _ rfl
        have q1 := hf 1 _ rfl
        have q2 := hf 2 _ rfl
        simp [Try.cells3, Try.cells58] at q0 q1 q2
        obtain ⟨n0, e0, _, _⟩ := DataW.trod_int Try.underlying3 q0
        obtain ⟨n1, e1, _, _⟩ := DataW.trod_int Try.underlying3 q1
        obtain ⟨zs, k2, _, _, _, hzl, hz⟩ := DataW.trod_array Try.underlying58 q2
        obtain ⟨z0, z1, z2, z3, rfl⟩ := list4 hzl
        · skip
          have r0 := hz 0 (by omega)
          have r1 := hz 1 (by omega)
          have r2 := hz 2 (by omega)
          have r3 := hz 3 (by omega)
          simp [Try.cells3] at r0 r1 r2 r3
          obtain ⟨n2, e2, _, _⟩ := DataW.trod_int Try.underlying3 r0
          obtain ⟨n3, e3, _, _⟩ := DataW.trod_int Try.underlying3 r1
          obtain ⟨n4, e4, _, _⟩ := DataW.trod_int Try.underlying3 r2
          obtain ⟨n5, e5, _, _⟩ := DataW.trod_int Try.underlying3 r3
          simp at e0 e1 e2 e3 e4 e5
          subst e0 e1 e2 e3 e4 e5
          exact ⟨⟨n0, n1, n2, n3, n4, n5⟩, hcell 0 (by omega), hcell 1 (by omega), hcell 2 (by omega), hcell 3 (by omega), hcell 4 (by omega), hcell 5 (by omega)⟩
    haveI : Inhabited TableD := ⟨tz⟩
    obtain ⟨T, hT⟩ := choose_lt (α := TableD) each
    have hlen : ((List.range len).map T).length = len := by simp
    refine ⟨some a, cap, (List.range len).map T, by rw [hlen], ⟨by omega, fun i hi => ?_⟩, by omega⟩
    have hi' : i < len := by omega
    have h0 := (hT 0 (by omega)).1
    have ha : ∃ b off, a = ⟨b, off, none⟩ := by
      rw [Nat.zero_mul] at h0
      have e : (a.add 0).add 0 = a.add 0 := by simp [Addr.add]
      rw [e] at h0
      exact addr_none h0
    obtain ⟨b, off, rfl⟩ := ha
    have ht := hT i hi'
    simp only [addr_add', Nat.add_zero] at ht
    rw [getD_range T len i tz hi']
    exact ⟨b, off, rfl, ht⟩

theorem openConds {v : Value} {x : DataW H × List MemPlace} (h : DataW.trod enc Try.prog w 0 spare held fuel 47 [v] = some x) (hw : ∀ n ∈ x.1.weights Try.prog 47, n ≤ reachBytes) :
    ∃ c : ClauseV, v = c.val ∧ CondsAt w c.ad c.cs ∧ c.cs.length * 40 ≤ 140737488351232 := by
  rcases open_slice Try.underlying47 h with ⟨hcs, _⟩ | ⟨a, len, cap, m, n, D, Pl, hcs, _, hl, hm, hmm, hx, hel⟩
  · simp at hcs
    subst hcs
    exact ⟨⟨none, 0, []⟩, rfl, ⟨by simp, fun i hi => absurd hi (by simp)⟩, by simp⟩
  · simp at hcs
    subst hcs
    have hlm : len ≤ m := by rw [hmm]; split <;> omega
    have hb : len * 40 ≤ 140737488351232 := by
      have h2 := hw ((((List.range len).map D).length + ((List.range (m - len)).map fun j => D (len + j)).length) * Try.prog.bytesOf 46) (by rw [hx]; simp [DataW.weights, Try.underlying47])
      rw [Try.bytes46] at h2
      simp only [List.length_map, List.length_range, reachBytes] at h2
      omega
    have each : ∀ i, i < len → ∃ t : CondD, w.cell? ((a.add (i * 5)).add 0) = some (.bool t.not) ∧ w.cell? ((a.add (i * 5)).add 1) = some (.int .i64 t.op) ∧ w.cell? ((a.add (i * 5)).add 2) = some (.int .i64 t.left) ∧
        w.cell? ((a.add (i * 5)).add 3) = some (.bool t.const) ∧ w.cell? ((a.add (i * 5)).add 4) = some (.int .i64 t.right) := by
      intro i hi
      obtain ⟨cs', h1, h2⟩ := hel i (by omega)
      rw [Try.cells46] at h1
      obtain ⟨_, hlen, hcell⟩ := World.cells?_some h1
      obtain ⟨xs, k, hk, hxy, _, hxl, hf⟩ := DataW.trod_struct Try.underlying46 h2
      obtain ⟨y0, y1, y2, y3, y4, rfl⟩ := list5 hxl
      obtain ⟨v0, v1, v2, v3, v4, rfl⟩ := list5 hlen
      · skip
        have q0 := hf 0 _ rfl
        have q1 := hf 1 _ rfl
        have q2 := hf 2 _ rfl
        have q3 := hf 3 _ rfl
        have q4 := hf 4 _ rfl
        simp [Try.cells3, Try.cells4] at q0 q1 q2 q3 q4
        obtain ⟨n0, e0, _⟩ := DataW.trod_bool Try.underlying4 q0
        obtain ⟨n1, e1, _, _⟩ := DataW.trod_int Try.underlying3 q1
        obtain ⟨n2, e2, _, _⟩ := DataW.trod_int Try.underlying3 q2
        obtain ⟨n3, e3, _⟩ := DataW.trod_bool Try.underlying4 q3
        obtain ⟨n4, e4, _, _⟩ := DataW.trod_int Try.underlying3 q4
        simp at e0 e1 e2 e3 e4
        subst e0 e1 e2 e3 e4
        exact ⟨⟨n0, n1, n2, n3, n4⟩, hcell 0 (by omega), hcell 1 (by omega), hcell 2 (by omega), hcell 3 (by omega), hcell 4 (by omega)⟩
    haveI : Inhabited CondD := ⟨cz⟩
    obtain ⟨T, hT⟩ := choose_lt (α := CondD) each
    have hlen : ((List.range len).map T).length = len := by simp
    refine ⟨⟨some a, cap, (List.range len).map T⟩, by show _ = Value.slice _ ((List.range len).map T).length _; rw [hlen], ⟨by show ((List.range len).map T).length ≤ _; omega, fun i hi => ?_⟩, by show ((List.range len).map T).length * 40 ≤ _; omega⟩
    have hi' : i < len := by
      have : i < ((List.range len).map T).length := hi
      omega
    have h0 := (hT 0 (by omega)).1
    have ha : ∃ b off, a = ⟨b, off, none⟩ := by
      rw [Nat.zero_mul] at h0
      have e : (a.add 0).add 0 = a.add 0 := by simp [Addr.add]
      rw [e] at h0
      exact addr_none h0
    obtain ⟨b, off, rfl⟩ := ha
    have ht := hT i hi'
    simp only [addr_add', Nat.add_zero] at ht
    show ∃ b' off', _ ∧ _
    rw [getD_range T len i cz hi']
    exact ⟨b, off, rfl, ht⟩

end Go.Proofs.Ytlpbelhfpoilpaa

namespace Go.Proofs.Ytlpbelhfpoilpaa
open Go.RowKit Go.Scout Go.Deep Go.ChangeShapes Go.WideShapes Go.ChangeAt

variable {H : Type} {enc : TypeId × Value → H} {w : World} {spare : Nat → Bool} {held : Bool} {fuel : Nat}

theorem weightsAll_mem {P : Program} {e : TypeId} {d : DataW H} {n : Nat} (hn : n ∈ d.weights P e) : ∀ {ds : List (DataW H)}, d ∈ ds → n ∈ DataW.weightsAll P e ds
  | [], h => absurd h (by simp)
  | x :: r, h => by
    rw [DataW.weightsAll]
    rcases List.mem_cons.1 h with rfl | h'
    · exact List.mem_append_left _ hn
    · exact List.mem_append_right _ (weightsAll_mem hn h')

theorem openClauses {v : Value} {x : DataW H × List MemPlace} (h : DataW.trod enc Try.prog w 0 spare held fuel 24 [v] = some x) (hw : ∀ n ∈ x.1.weights Try.prog 24, n ≤ reachBytes) :
    ∃ ao cap ls, v = .slice ao (List.length ls) cap ∧ ClausesAt w ao ls ∧ ls.length * 24 ≤ 140737488351232 ∧ ∀ i, i < ls.length → (ls.getD i lz).cs.length * 40 ≤ 140737488351232 := by
  rcases open_slice1 Try.underlying24 Try.cells68 h with ⟨hcs, _⟩ | ⟨a, len, cap, m, n, V, D, Pl, hcs, _, hl, hm, hmm, hx, hel⟩
  · simp at hcs
    subst hcs
    exact ⟨none, 0, [], rfl, ⟨by simp, fun i hi => absurd hi (by simp), fun i hi => absurd hi (by simp)⟩, by simp, fun i hi => absurd hi (by simp)⟩
  · simp at hcs
    subst hcs
    have hlm : len ≤ m := by rw [hmm]; split <;> omega
    have hb : len * 24 ≤ 140737488351232 := by
      have h2 := hw ((((List.range len).map D).length + ((List.range (m - len)).map fun j => D (len + j)).length) * Try.prog.bytesOf 68) (by rw [hx]; simp [DataW.weights, Try.underlying24])
      rw [Try.bytes68] at h2
      simp only [List.length_map, List.length_range, reachBytes] at h2
      omega
    have each : ∀ i, i < len → ∃ c : ClauseV, w.cell? (a.add i) = some c.val ∧ CondsAt w c.ad c.cs ∧ c.cs.length * 40 ≤ 140737488351232 := by
      intro i hi
      obtain ⟨h1, h2⟩ := hel i (by omega)
      obtain ⟨xs, k, hk, hxy, _, hxl, hf⟩ := DataW.trod_struct Try.underlying68 h2
      have hx1 : xs.length = 1 := hxl
      obtain ⟨y0, rfl⟩ := List.length_eq_one_iff.1 hx1
      have q0 := hf 0 _ rfl
      simp [Try.cells47] at q0
      obtain ⟨c, hc, hcd, hcl⟩ := openConds q0 (fun nn hnn => by
        refine hw nn ?_
        rw [hx]
        have hD : D i = .agg [y0.1] := by
          have := congrArg Prod.fst hxy
          simpa using this
        have hmem : nn ∈ (D i).weights Try.prog 68 := by
          rw [hD]
          simp [DataW.weights, Try.underlying68, DataW.weightsEach, hnn]
        have hall := weightsAll_mem hmem (ds := (List.range len).map D) (List.mem_map.2 ⟨i, List.mem_range.2 hi, rfl⟩)
        simp only [DataW.weights, Try.underlying24]
        exact List.mem_cons_of_mem _ (List.mem_append_left _ hall))
      exact ⟨c, by rw [← hc]; exact h1, hcd, hcl⟩
    haveI : Inhabited ClauseV := ⟨lz⟩
    obtain ⟨T, hT⟩ := choose_lt (α := ClauseV) each
    have hlen : ((List.range len).map T).length = len := by simp
    refine ⟨some a, cap, (List.range len).map T, by rw [hlen], ⟨by omega, fun i hi => ?_, fun i hi => ?_⟩, by omega, fun i hi => ?_⟩
    · have hi' : i < len := by omega
      obtain ⟨b, off, rfl⟩ := addr_none (hT 0 (by omega)).1
      have ht := (hT i hi').1
      rw [addr_add'] at ht
      refine ⟨b, off, rfl, ?_⟩
      show _ = some (((List.range len).map T).getD i lz).val
      rw [getD_range T len i lz hi']
      exact ht
    · have hi' : i < len := by omega
      rw [getD_range T len i lz hi']
      exact (hT i hi').2.1
    · have hi' : i < len := by omega
      rw [getD_range T len i lz hi']
      exact (hT i hi').2.2

set_option maxRecDepth 100000 in
theorem openQuery {r : Reach} {b0 : Nat} {v : Value} {d : DataW H} {p : List MemPlace} (hv : Value.okWide Try.prog w r b0 26 v) (h : DataW.Trod enc Try.prog w 0 spare held 26 v d p) (hw : ∀ n ∈ d.weights Try.prog 26, n ≤ reachBytes) :
    ∃ q : QueryV, v = .agg q.cells ∧ q.At w ∧ q.src.xs.length * 8 ≤ 140737488351232 ∧ q.keys.xs.length * 8 ≤ 140737488351232 ∧ q.sums.xs.length * 8 ≤ 140737488351232 ∧ q.sel.xs.length * 8 ≤ 140737488351232 ∧ q.ord.xs.length * 8 ≤ 140737488351232 ∧
      q.wh.length * 24 ≤ 140737488351232 ∧ ∀ i, i < q.wh.length → (q.wh.getD i lz).cs.length * 40 ≤ 140737488351232 := by
  obtain ⟨cs, rfl, hsz⟩ := okWide_struct Try.underlying26 hv
  rw [Try.cells26] at hsz
  obtain ⟨fuel, hf⟩ := h
  obtain ⟨cl, rfl⟩ : ∃ l : List Value, cs = l.toArray := ⟨cs.toList, by simp⟩
  obtain ⟨v0, v1, v2, v3, v4, v5, v6, rfl⟩ := list7 (by simpa using hsz)
  obtain ⟨xs, k, hk, hxy, _, hxl, hff⟩ := DataW.trod_struct Try.underlying26 hf
  obtain ⟨y0, y1, y2, y3, y4, y5, y6, rfl⟩ := list7 hxl
  have q0 := hff 0 _ rfl
  have q1 := hff 1 _ rfl
  have q2 := hff 2 _ rfl
  have q3 := hff 3 _ rfl
  have q4 := hff 4 _ rfl
  have q5 := hff 5 _ rfl
  have q6 := hff 6 _ rfl
  simp [Value.cells, Try.cells23, Try.cells24, Try.cells4] at q0 q1 q2 q3 q4 q5 q6
  have hd : d = .agg [y0.1, y1.1, y2.1, y3.1, y4.1, y5.1, y6.1] := by
    have := congrArg Prod.fst hxy
    simpa using this
  have hwe : ∀ n, n ∈ DataW.weightsEach Try.prog [23, 24, 4, 23, 23, 23, 23] [y0.1, y1.1, y2.1, y3.1, y4.1, y5.1, y6.1] → n ≤ reachBytes := fun n hn => hw n (by
    rw [hd]
    simp only [DataW.weights, Try.underlying26]
    exact hn)
  have wm := fun (j : Nat) (t : TypeId) (dd : DataW H) (h1 : [23, 24, 4, 23, 23, 23, 23][j]? = some t) (h2 : [y0.1, y1.1, y2.1, y3.1, y4.1, y5.1, y6.1][j]? = some dd) => fun n hn => hwe n (DataW.weights_mem_each h1 h2 n hn)
  obtain ⟨i0, rfl, a0, b0'⟩ := openInts q0 (wm 0 _ _ rfl rfl)
  obtain ⟨wad, wcap, ls, rfl, a1, b1, b1'⟩ := openClauses q1 (wm 1 _ _ rfl rfl)
  obtain ⟨gb, e2, _⟩ := DataW.trod_bool Try.underlying4 q2
  obtain ⟨i3, rfl, a3, b3⟩ := openInts q3 (wm 3 _ _ rfl rfl)
  obtain ⟨i4, rfl, a4, b4⟩ := openInts q4 (wm 4 _ _ rfl rfl)
  obtain ⟨i5, rfl, a5, b5⟩ := openInts q5 (wm 5 _ _ rfl rfl)
  obtain ⟨i6, rfl, a6, b6⟩ := openInts q6 (wm 6 _ _ rfl rfl)
  simp at e2
  subst e2
  exact ⟨⟨i0, wad, wcap, ls, gb, i3, i4, i5, i6⟩, rfl, ⟨a0, a1, a3, a4, a5, a6⟩, b0', b3, b4, b5, b6, b1, b1'⟩

end Go.Proofs.Ytlpbelhfpoilpaa

