import Derived.Test.YtlpbelhfpoilpaaGreatCEqArrBehindGvCSameD
import Derived.Test.YtlpbelhfpoilpaaGreatCWhole
set_option linter.all false
namespace Go.Proofs.YtlpbelhfpoilpaaGreat
open Go.RowKit Go.Scout

set_option maxRecDepth 20000 in
set_option maxHeartbeats 16000000 in
theorem wholeD_true (w0 w : World) (G : Nat) (ao d : Option Addr) (cap dcap : Nat) (ts : List TableD) (q : QueryV) (db db' : List RowsV) (bc bf bk bu be bo bw bp bd : Nat) (v vr u1 u2 : Value) (A : Nat → Nat) (k1 k2 s1 s2 : Nat) (x1' x2' : Value)
    (h : GivD w0 w G 43 76 74 78 3 54 51 29 23 ts q db db' bc bf bk bu be bo bw bp bd v vr u1 u2 A k1 k2 s1 s2 x1' x2') (hx : TablesAt w ao ts) (hq : q.At w) (hd : DbAt w d db) :
    Calls Tryz.prog 9 #[.pointer (some ⟨G, 0, none⟩), .slice ao ts.length cap, .agg q.cells, .slice none 0 0, .slice d db.length dcap] w fun e w' => e = .returned (.bool true) ∧ Below w.heap.size w w' := by
  have hts := hx.1
  obtain ⟨w1, hw1⟩ : ∃ x, x = w.alloc (.cells q.cells 26) := ⟨_, rfl⟩
  have hk1 : Below w.heap.size w w1 := by rw [hw1]; exact below_alloc _ _
  have hbox : GB w1 w.heap.size 26 q.cells := by rw [hw1]; exact heap_alloc_new _ _
  have H := h.below hk1
  have hX : TablesAt w1 ao ts := hx.below hk1
  have hQ : q.At w1 := hq.below hk1
  have hT : TablesAt w1 (some ⟨bc, 0, none⟩) ts := tabsAt H.cat hts
  have hLQ : (lentQ q bf bk bu be bo bw A).At w1 := GivD_query H hq
  have hBH := fun x (hb : Below w1.heap.size w1 x) => behindD_true w0 x G ts q db db' bc bf bk bu be bo bw bp bd v vr u1 u2 A k1 k2 s1 s2 x1' x2' (H.below hb) hd.1 (fun i hi => (hd.2.2 i hi).1) hts hq.wh.1 (fun i hi => (hq.wh.2.2 i hi).1)
  have HDX : Hid (DbAt w1 d db) := hd.below hk1
  have HDH : Hid (DbAt w1 (some ⟨bd, 0, none⟩) db') := (H.had hd).1
  have HSM : Hid _ := H.same
  have HLN : Hid _ := H.len
  have HTB : Hid (∀ i, i < db.length → ∀ j, j < (db.getD i rz).rs.length → ∃ B, (db'.getD i rz).rs.getD j iz = ⟨some ⟨B, 0, none⟩, ((db.getD i rz).rs.getD j iz).xs.length + 2, ((db.getD i rz).rs.getD j iz).xs⟩ ∧ GB w1 B 3 (lentCells ((db.getD i rz).rs.getD j iz).xs)) := fun i hi j hj => by
    obtain ⟨T, a, b, ht⟩ := H.tab i (by have := H.len; omega)
    obtain ⟨B, e, _, hB⟩ := ht.rows j hj
    exact ⟨B, e, hB⟩
  have hdl := hd.1
  have hSW := fun x (hb : Below w1.heap.size w1 x) => sameWhere_true (some ⟨bw, 0, none⟩) q.wad (q.wh.length + 2) q.wcap (lentLs q.wh A) q.wh x (hLQ.wh.below hb) (hQ.wh.below hb) (lentLs_len _ _) (fun i hi => by rw [lentLs_len] at hi; rw [lentLs_at _ _ hi])
  have hL1 := fun x (hb : Below w1.heap.size w1 x) => lent_true bf q.src.ad q.src.cap q.src.xs x (H.src.of (hb.block _ H.src.lt)) (IntsAt.below hb hQ.src)
  have hL2 := fun x (hb : Below w1.heap.size w1 x) => lent_true bk q.keys.ad q.keys.cap q.keys.xs x (H.keys.of (hb.block _ H.keys.lt)) (IntsAt.below hb hQ.keys)
  have hL3 := fun x (hb : Below w1.heap.size w1 x) => lent_true bu q.sums.ad q.sums.cap q.sums.xs x (H.sums.of (hb.block _ H.sums.lt)) (IntsAt.below hb hQ.sums)
  have hL4 := fun x (hb : Below w1.heap.size w1 x) => lent_true be q.sel.ad q.sel.cap q.sel.xs x (H.sel.of (hb.block _ H.sel.lt)) (IntsAt.below hb hQ.sel)
  have hL5 := fun x (hb : Below w1.heap.size w1 x) => lent_true bo q.ord.ad q.ord.cap q.ord.xs x (H.ord.of (hb.block _ H.ord.lt)) (IntsAt.below hb hQ.ord)
  have hSP := fun x => samePlan_true (some ⟨bp, 0, none⟩) none 2 0 [] [] x ⟨by simp, fun i hi => absurd hi (by simp)⟩ ⟨by simp, fun i hi => absurd hi (by simp)⟩ rfl (fun i hi => absurd hi (by simp))
  simp only [List.length_nil] at hSP
  rw [lentLs_len] at hSW
  have g0 : w1.cell? ⟨G, 0, none⟩ = some (.slice (some ⟨bc, 0, none⟩) ts.length (ts.length + 2)) := H.g.cell 0
  have g1 : w1.cell? ⟨G, 1, none⟩ = some (.slice (some ⟨bf, 0, none⟩) q.src.xs.length (q.src.xs.length + 2)) := H.g.cell 1
  have g2 : w1.cell? ⟨G, 2, none⟩ = some (.slice (some ⟨bw, 0, none⟩) q.wh.length (q.wh.length + 2)) := H.g.cell 2
  have g4 : w1.cell? ⟨G, 4, none⟩ = some (.slice (some ⟨bk, 0, none⟩) q.keys.xs.length (q.keys.xs.length + 2)) := H.g.cell 4
  have g5 : w1.cell? ⟨G, 5, none⟩ = some (.slice (some ⟨bu, 0, none⟩) q.sums.xs.length (q.sums.xs.length + 2)) := H.g.cell 5
  have g6 : w1.cell? ⟨G, 6, none⟩ = some (.slice (some ⟨be, 0, none⟩) q.sel.xs.length (q.sel.xs.length + 2)) := H.g.cell 6
  have g7 : w1.cell? ⟨G, 7, none⟩ = some (.slice (some ⟨bo, 0, none⟩) q.ord.xs.length (q.ord.xs.length + 2)) := H.g.cell 7
  have g8 : w1.cell? ⟨G, 8, none⟩ = some (.slice (some ⟨bp, 0, none⟩) 0 2) := H.g.cell 8
  have g9 : w1.cell? ⟨G, 9, none⟩ = some (.slice (some ⟨bd, 0, none⟩) db.length (db.length + 2)) := H.g.cell 9
  clear H h hLQ hQ hq hx hd
  have hdne : ((db.length : Int) != (db.length : Int)) = false := by simp
  obtain ⟨⟨sa, sc, src⟩, wad, wcap, wh, group, ⟨ka, kc, keys⟩, ⟨ua, uc, sums⟩, ⟨ea, ec, sel⟩, ⟨oa, oc, ord⟩⟩ := q
  unfold QueryV.cells IntsV.val at *
  simp only at *
  have x0 : w1.cell? ⟨w.heap.size, 0, none⟩ = some (.slice sa src.length sc) := hbox.cell 0
  have x1 : w1.cell? ⟨w.heap.size, 1, none⟩ = some (.slice wad wh.length wcap) := hbox.cell 1
  have x3 : w1.cell? ⟨w.heap.size, 3, none⟩ = some (.slice ka keys.length kc) := hbox.cell 3
  have x4 : w1.cell? ⟨w.heap.size, 4, none⟩ = some (.slice ua sums.length uc) := hbox.cell 4
  have x5 : w1.cell? ⟨w.heap.size, 5, none⟩ = some (.slice ea sel.length ec) := hbox.cell 5
  have x6 : w1.cell? ⟨w.heap.size, 6, none⟩ = some (.slice oa ord.length oc) := hbox.cell 6
  have HBW : Hid (Below w1.heap.size w1 (w.alloc (.cells #[.slice sa src.length sc, .slice wad wh.length wcap, .bool group, .slice ka keys.length kc, .slice ua sums.length uc, .slice ea sel.length ec, .slice oa ord.length oc] 26))) := show Below _ _ _ by rw [hw1]; exact Below.refl _ _
  have HK1 : Hid (Below w.heap.size w w1) := hk1
  clear hw1 hbox hk1
  have heq : ∀ (a b c e : Int) (x : World), (Op.equalIn 9999 52 (.agg #[.int .i64 a, .int .i64 b, .int .i64 c, .int .i64 e]) (.agg #[.int .i64 a, .int .i64 b, .int .i64 c, .int .i64 e])).run Tryz.prog x = .ok true x := fun a b c e x => eqArr4 9997 a b c e x
  go_enter Tryz.func9, Tryz.ntmps9
  go_wp2
  go_loopw [11] (fun i wr => ∃ k : Nat, k ≤ ts.length ∧ i = .int .i64 k ∧ Below w1.heap.size w1 wr) (fun i _ => ts.length - (intOf i).toNat)
  case atStart => exact ⟨0, Nat.zero_le _, rfl, HBW.out⟩
  case round =>
   clear HBW
   obtain ⟨k, hk, rfl, hbr⟩ := hrel
   by_cases hlt : k < ts.length
   · obtain ⟨b, off, rfl, c0, c1, c2, c3, c4, c5⟩ := hX.2 k hlt
     obtain ⟨b', off', he', d0, d1, d2, d3, d4, d5⟩ := hT.2 k hlt
     cases he'
     generalize ts.getD k tz = t at *
     have m0 := cell_below hbr c0
     have m1 := cell_below hbr c1
     have m2 := cell_below hbr c2
     have m3 := cell_below hbr c3
     have m4 := cell_below hbr c4
     have m5 := cell_below hbr c5
     have n0 := cell_below hbr d0
     have n1 := cell_below hbr d1
     have n2 := cell_below hbr d2
     have n3 := cell_below hbr d3
     have n4 := cell_below hbr d4
     have n5 := cell_below hbr d5
     have gg := cell_below hbr g0
     simp only [Nat.zero_add] at n0 n1 n2 n3 n4 n5
     clear c0 c1 c2 c3 c4 c5 d0 d1 d2 d3 d4 d5 hX hT hBH hSW hL1 hL2 hL3 hL4 hL5 hSP
     go_wp2
     go_quiet (fail)
     go_wp2
     go_roundw
     case rel => exact ⟨k + 1, by omega, by go_num, below_drewN hbr _⟩
     case measure => simp [intOf]; omega
   · clear hX hT heq
     go_wp2
     refine wp_region_below (by kernel_rfl) (by kernel_rfl) ?_
     go_big_quiet_want
     refine ⟨.pointer (some ⟨G, 0, none⟩), fun x hx => ?_, ?_⟩
     · go_simp
     simp only [Act.put, List.setIfInBounds_toArray, List.set_cons_succ, List.set_cons_zero]
     go_big_quiet_on
     go_big_quiet_want
     refine ⟨.pointer (some ⟨G, 0, none⟩), fun x hx => ?_, ?_⟩
     · go_simp
     simp only [Act.put, List.setIfInBounds_toArray, List.set_cons_succ, List.set_cons_zero]
     go_big_quiet_on
     go_big_quiet_want
     refine ⟨.pointer (some ⟨G, 1, none⟩), fun x hx => ?_, ?_⟩
     · go_simp
     simp only [Act.put, List.setIfInBounds_toArray, List.set_cons_succ, List.set_cons_zero]
     go_big_quiet_on
     go_big_quiet_want
     refine ⟨.pointer (some ⟨G, 2, none⟩), fun x hx => ?_, ?_⟩
     · go_simp
     simp only [Act.put, List.setIfInBounds_toArray, List.set_cons_succ, List.set_cons_zero]
     go_big_quiet_on
     go_big_quiet_want
     refine ⟨.slice (some ⟨bw, 0, none⟩) wh.length (wh.length + 2), fun x hx => ?_, ?_⟩
     · have e := cell_below (Below.step hbr hx) g2
       go_simp
     simp only [Act.put, List.setIfInBounds_toArray, List.set_cons_succ, List.set_cons_zero]
     go_big_quiet_on
     go_big_quiet_want
     refine ⟨.pointer (some ⟨w.heap.size, 1, none⟩), fun x hx => ?_, ?_⟩
     · go_simp
     simp only [Act.put, List.setIfInBounds_toArray, List.set_cons_succ, List.set_cons_zero]
     go_big_quiet_on
     go_big_quiet_want
     refine ⟨.slice wad wh.length wcap, fun x hx => ?_, ?_⟩
     · have e := cell_below (Below.step hbr hx) x1
       go_simp
     simp only [Act.put, List.setIfInBounds_toArray, List.set_cons_succ, List.set_cons_zero]
     go_big_quiet_on
     go_big_quiet_want
     refine ⟨.bool true, fun x hx => ?_, ?_⟩
     · have hC := Calls.within hx (hSW x (Below.step hbr hx))
       go_simp
     simp only [Act.put, List.setIfInBounds_toArray, List.set_cons_succ, List.set_cons_zero]
     go_big_quiet_on
     go_big_quiet_want
     refine ⟨.bool true, fun x hx => ?_, ?_⟩
     · go_simp
     simp only [Act.put, List.setIfInBounds_toArray, List.set_cons_succ, List.set_cons_zero]
     go_big_quiet_on
     refine wpQuiet_nil ?_
     intro wa hbwa
     have ka1 := Below.step hbr hbwa
     clear hbwa hbr
     go_wp2
     refine wp_region_below (by kernel_rfl) (by kernel_rfl) ?_
     go_big_quiet_want
     refine ⟨.pointer (some ⟨G, 0, none⟩), fun x hx => ?_, ?_⟩
     · go_simp
     simp only [Act.put, List.setIfInBounds_toArray, List.set_cons_succ, List.set_cons_zero]
     go_big_quiet_on
     go_big_quiet_want
     refine ⟨.pointer (some ⟨G, 0, none⟩), fun x hx => ?_, ?_⟩
     · go_simp
     simp only [Act.put, List.setIfInBounds_toArray, List.set_cons_succ, List.set_cons_zero]
     go_big_quiet_on
     go_big_quiet_want
     refine ⟨.pointer (some ⟨G, 1, none⟩), fun x hx => ?_, ?_⟩
     · go_simp
     simp only [Act.put, List.setIfInBounds_toArray, List.set_cons_succ, List.set_cons_zero]
     go_big_quiet_on
     go_big_quiet_want
     refine ⟨.pointer (some ⟨G, 1, none⟩), fun x hx => ?_, ?_⟩
     · go_simp
     simp only [Act.put, List.setIfInBounds_toArray, List.set_cons_succ, List.set_cons_zero]
     go_big_quiet_on
     go_big_quiet_want
     refine ⟨.slice (some ⟨bf, 0, none⟩) src.length (src.length + 2), fun x hx => ?_, ?_⟩
     · have e := cell_below (Below.step ka1 hx) g1
       go_simp
     simp only [Act.put, List.setIfInBounds_toArray, List.set_cons_succ, List.set_cons_zero]
     go_big_quiet_on
     go_big_quiet_want
     refine ⟨.pointer (some ⟨w.heap.size, 0, none⟩), fun x hx => ?_, ?_⟩
     · go_simp
     simp only [Act.put, List.setIfInBounds_toArray, List.set_cons_succ, List.set_cons_zero]
     go_big_quiet_on
     go_big_quiet_want
     refine ⟨.slice sa src.length sc, fun x hx => ?_, ?_⟩
     · have e := cell_below (Below.step ka1 hx) x0
       go_simp
     simp only [Act.put, List.setIfInBounds_toArray, List.set_cons_succ, List.set_cons_zero]
     go_big_quiet_on
     go_big_quiet_want
     refine ⟨.bool true, fun x hx => ?_, ?_⟩
     · have hC := Calls.within hx (hL1 x (Below.step ka1 hx))
       go_simp
     simp only [Act.put, List.setIfInBounds_toArray, List.set_cons_succ, List.set_cons_zero]
     go_big_quiet_on
     go_big_quiet_want
     refine ⟨.bool true, fun x hx => ?_, ?_⟩
     · go_simp
     simp only [Act.put, List.setIfInBounds_toArray, List.set_cons_succ, List.set_cons_zero]
     go_big_quiet_on
     refine wpQuiet_nil ?_
     intro wb hbwb
     have kb1 := Below.step ka1 hbwb
     clear hbwb ka1
     go_wp2
     refine wp_region_below (by kernel_rfl) (by kernel_rfl) ?_
     go_big_quiet_want
     refine ⟨.pointer (some ⟨G, 0, none⟩), fun x hx => ?_, ?_⟩
     · go_simp
     simp only [Act.put, List.setIfInBounds_toArray, List.set_cons_succ, List.set_cons_zero]
     go_big_quiet_on
     go_big_quiet_want
     refine ⟨.pointer (some ⟨G, 0, none⟩), fun x hx => ?_, ?_⟩
     · go_simp
     simp only [Act.put, List.setIfInBounds_toArray, List.set_cons_succ, List.set_cons_zero]
     go_big_quiet_on
     go_big_quiet_want
     refine ⟨.pointer (some ⟨G, 1, none⟩), fun x hx => ?_, ?_⟩
     · go_simp
     simp only [Act.put, List.setIfInBounds_toArray, List.set_cons_succ, List.set_cons_zero]
     go_big_quiet_on
     go_big_quiet_want
     refine ⟨.pointer (some ⟨G, 4, none⟩), fun x hx => ?_, ?_⟩
     · go_simp
     simp only [Act.put, List.setIfInBounds_toArray, List.set_cons_succ, List.set_cons_zero]
     go_big_quiet_on
     go_big_quiet_want
     refine ⟨.slice (some ⟨bk, 0, none⟩) keys.length (keys.length + 2), fun x hx => ?_, ?_⟩
     · have e := cell_below (Below.step kb1 hx) g4
       go_simp
     simp only [Act.put, List.setIfInBounds_toArray, List.set_cons_succ, List.set_cons_zero]
     go_big_quiet_on
     go_big_quiet_want
     refine ⟨.pointer (some ⟨w.heap.size, 3, none⟩), fun x hx => ?_, ?_⟩
     · go_simp
     simp only [Act.put, List.setIfInBounds_toArray, List.set_cons_succ, List.set_cons_zero]
     go_big_quiet_on
     go_big_quiet_want
     refine ⟨.slice ka keys.length kc, fun x hx => ?_, ?_⟩
     · have e := cell_below (Below.step kb1 hx) x3
       go_simp
     simp only [Act.put, List.setIfInBounds_toArray, List.set_cons_succ, List.set_cons_zero]
     go_big_quiet_on
     go_big_quiet_want
     refine ⟨.bool true, fun x hx => ?_, ?_⟩
     · have hC := Calls.within hx (hL2 x (Below.step kb1 hx))
       go_simp
     simp only [Act.put, List.setIfInBounds_toArray, List.set_cons_succ, List.set_cons_zero]
     go_big_quiet_on
     go_big_quiet_want
     refine ⟨.bool true, fun x hx => ?_, ?_⟩
     · go_simp
     simp only [Act.put, List.setIfInBounds_toArray, List.set_cons_succ, List.set_cons_zero]
     go_big_quiet_on
     refine wpQuiet_nil ?_
     intro wc hbwc
     have kc1 := Below.step kb1 hbwc
     clear hbwc kb1
     go_wp2
     refine wp_region_below (by kernel_rfl) (by kernel_rfl) ?_
     go_big_quiet_want
     refine ⟨.pointer (some ⟨G, 0, none⟩), fun x hx => ?_, ?_⟩
     · go_simp
     simp only [Act.put, List.setIfInBounds_toArray, List.set_cons_succ, List.set_cons_zero]
     go_big_quiet_on
     go_big_quiet_want
     refine ⟨.pointer (some ⟨G, 0, none⟩), fun x hx => ?_, ?_⟩
     · go_simp
     simp only [Act.put, List.setIfInBounds_toArray, List.set_cons_succ, List.set_cons_zero]
     go_big_quiet_on
     go_big_quiet_want
     refine ⟨.pointer (some ⟨G, 1, none⟩), fun x hx => ?_, ?_⟩
     · go_simp
     simp only [Act.put, List.setIfInBounds_toArray, List.set_cons_succ, List.set_cons_zero]
     go_big_quiet_on
     go_big_quiet_want
     refine ⟨.pointer (some ⟨G, 5, none⟩), fun x hx => ?_, ?_⟩
     · go_simp
     simp only [Act.put, List.setIfInBounds_toArray, List.set_cons_succ, List.set_cons_zero]
     go_big_quiet_on
     go_big_quiet_want
     refine ⟨.slice (some ⟨bu, 0, none⟩) sums.length (sums.length + 2), fun x hx => ?_, ?_⟩
     · have e := cell_below (Below.step kc1 hx) g5
       go_simp
     simp only [Act.put, List.setIfInBounds_toArray, List.set_cons_succ, List.set_cons_zero]
     go_big_quiet_on
     go_big_quiet_want
     refine ⟨.pointer (some ⟨w.heap.size, 4, none⟩), fun x hx => ?_, ?_⟩
     · go_simp
     simp only [Act.put, List.setIfInBounds_toArray, List.set_cons_succ, List.set_cons_zero]
     go_big_quiet_on
     go_big_quiet_want
     refine ⟨.slice ua sums.length uc, fun x hx => ?_, ?_⟩
     · have e := cell_below (Below.step kc1 hx) x4
       go_simp
     simp only [Act.put, List.setIfInBounds_toArray, List.set_cons_succ, List.set_cons_zero]
     go_big_quiet_on
     go_big_quiet_want
     refine ⟨.bool true, fun x hx => ?_, ?_⟩
     · have hC := Calls.within hx (hL3 x (Below.step kc1 hx))
       go_simp
     simp only [Act.put, List.setIfInBounds_toArray, List.set_cons_succ, List.set_cons_zero]
     go_big_quiet_on
     go_big_quiet_want
     refine ⟨.bool true, fun x hx => ?_, ?_⟩
     · go_simp
     simp only [Act.put, List.setIfInBounds_toArray, List.set_cons_succ, List.set_cons_zero]
     go_big_quiet_on
     refine wpQuiet_nil ?_
     intro wd hbwd
     have kd1 := Below.step kc1 hbwd
     clear hbwd kc1
     go_wp2
     refine wp_region_below (by kernel_rfl) (by kernel_rfl) ?_
     go_big_quiet_want
     refine ⟨.pointer (some ⟨G, 0, none⟩), fun x hx => ?_, ?_⟩
     · go_simp
     simp only [Act.put, List.setIfInBounds_toArray, List.set_cons_succ, List.set_cons_zero]
     go_big_quiet_on
     go_big_quiet_want
     refine ⟨.pointer (some ⟨G, 0, none⟩), fun x hx => ?_, ?_⟩
     · go_simp
     simp only [Act.put, List.setIfInBounds_toArray, List.set_cons_succ, List.set_cons_zero]
     go_big_quiet_on
     go_big_quiet_want
     refine ⟨.pointer (some ⟨G, 1, none⟩), fun x hx => ?_, ?_⟩
     · go_simp
     simp only [Act.put, List.setIfInBounds_toArray, List.set_cons_succ, List.set_cons_zero]
     go_big_quiet_on
     go_big_quiet_want
     refine ⟨.pointer (some ⟨G, 6, none⟩), fun x hx => ?_, ?_⟩
     · go_simp
     simp only [Act.put, List.setIfInBounds_toArray, List.set_cons_succ, List.set_cons_zero]
     go_big_quiet_on
     go_big_quiet_want
     refine ⟨.slice (some ⟨be, 0, none⟩) sel.length (sel.length + 2), fun x hx => ?_, ?_⟩
     · have e := cell_below (Below.step kd1 hx) g6
       go_simp
     simp only [Act.put, List.setIfInBounds_toArray, List.set_cons_succ, List.set_cons_zero]
     go_big_quiet_on
     go_big_quiet_want
     refine ⟨.pointer (some ⟨w.heap.size, 5, none⟩), fun x hx => ?_, ?_⟩
     · go_simp
     simp only [Act.put, List.setIfInBounds_toArray, List.set_cons_succ, List.set_cons_zero]
     go_big_quiet_on
     go_big_quiet_want
     refine ⟨.slice ea sel.length ec, fun x hx => ?_, ?_⟩
     · have e := cell_below (Below.step kd1 hx) x5
       go_simp
     simp only [Act.put, List.setIfInBounds_toArray, List.set_cons_succ, List.set_cons_zero]
     go_big_quiet_on
     go_big_quiet_want
     refine ⟨.bool true, fun x hx => ?_, ?_⟩
     · have hC := Calls.within hx (hL4 x (Below.step kd1 hx))
       go_simp
     simp only [Act.put, List.setIfInBounds_toArray, List.set_cons_succ, List.set_cons_zero]
     go_big_quiet_on
     go_big_quiet_want
     refine ⟨.bool true, fun x hx => ?_, ?_⟩
     · go_simp
     simp only [Act.put, List.setIfInBounds_toArray, List.set_cons_succ, List.set_cons_zero]
     go_big_quiet_on
     refine wpQuiet_nil ?_
     intro we hbwe
     have ke1 := Below.step kd1 hbwe
     clear hbwe kd1
     go_wp2
     refine wp_region_below (by kernel_rfl) (by kernel_rfl) ?_
     go_big_quiet_want
     refine ⟨.pointer (some ⟨G, 0, none⟩), fun x hx => ?_, ?_⟩
     · go_simp
     simp only [Act.put, List.setIfInBounds_toArray, List.set_cons_succ, List.set_cons_zero]
     go_big_quiet_on
     go_big_quiet_want
     refine ⟨.pointer (some ⟨G, 0, none⟩), fun x hx => ?_, ?_⟩
     · go_simp
     simp only [Act.put, List.setIfInBounds_toArray, List.set_cons_succ, List.set_cons_zero]
     go_big_quiet_on
     go_big_quiet_want
     refine ⟨.pointer (some ⟨G, 1, none⟩), fun x hx => ?_, ?_⟩
     · go_simp
     simp only [Act.put, List.setIfInBounds_toArray, List.set_cons_succ, List.set_cons_zero]
     go_big_quiet_on
     go_big_quiet_want
     refine ⟨.pointer (some ⟨G, 7, none⟩), fun x hx => ?_, ?_⟩
     · go_simp
     simp only [Act.put, List.setIfInBounds_toArray, List.set_cons_succ, List.set_cons_zero]
     go_big_quiet_on
     go_big_quiet_want
     refine ⟨.slice (some ⟨bo, 0, none⟩) ord.length (ord.length + 2), fun x hx => ?_, ?_⟩
     · have e := cell_below (Below.step ke1 hx) g7
       go_simp
     simp only [Act.put, List.setIfInBounds_toArray, List.set_cons_succ, List.set_cons_zero]
     go_big_quiet_on
     go_big_quiet_want
     refine ⟨.pointer (some ⟨w.heap.size, 6, none⟩), fun x hx => ?_, ?_⟩
     · go_simp
     simp only [Act.put, List.setIfInBounds_toArray, List.set_cons_succ, List.set_cons_zero]
     go_big_quiet_on
     go_big_quiet_want
     refine ⟨.slice oa ord.length oc, fun x hx => ?_, ?_⟩
     · have e := cell_below (Below.step ke1 hx) x6
       go_simp
     simp only [Act.put, List.setIfInBounds_toArray, List.set_cons_succ, List.set_cons_zero]
     go_big_quiet_on
     go_big_quiet_want
     refine ⟨.bool true, fun x hx => ?_, ?_⟩
     · have hC := Calls.within hx (hL5 x (Below.step ke1 hx))
       go_simp
     simp only [Act.put, List.setIfInBounds_toArray, List.set_cons_succ, List.set_cons_zero]
     go_big_quiet_on
     go_big_quiet_want
     refine ⟨.bool true, fun x hx => ?_, ?_⟩
     · go_simp
     simp only [Act.put, List.setIfInBounds_toArray, List.set_cons_succ, List.set_cons_zero]
     go_big_quiet_on
     refine wpQuiet_nil ?_
     intro wf hbwf
     have kf1 := Below.step ke1 hbwf
     clear hbwf ke1
     have e8 := cell_below kf1 g8
     clear hSW hL1 hL2 hL3 hL4 hL5 g0 g1 g2 g4 g5 g6 g7 x0 x1 x3 x4 x5 x6
     go_wp2_with fail
     refine (hSP _).mono ?_
     rintro e wg ⟨rfl, hbg⟩
     have kg := Below.step kf1 hbg
     clear hSP e8 hbg kf1
     go_wp2_with fail
     refine (hBH _ kg).mono ?_
     rintro e wh9 ⟨rfl, hbh⟩
     have kh := Below.step kg hbh
     have e9 := cell_below kh g9
     clear hBH hbh kg g8
     go_wp2
     go_loopw [20] (fun i wr2 => i = .int .i64 0 ∧ Below w1.heap.size w1 wr2) (fun _ _ => 0)
     case atStart => exact ⟨rfl, kh⟩
     case round =>
       obtain ⟨rfl, hbr2⟩ := hrel
       clear e9 kh
       go_wp2
       go_loopw [23] (fun iv wr2 => ∃ i : Nat, i ≤ db.length ∧ iv = .int .i64 i ∧ Below w1.heap.size w1 wr2) (fun iv _ => db.length - (intOf iv).toNat)
       case atStart => exact ⟨0, Nat.zero_le _, rfl, hbr2⟩
       case round =>
        clear hbr2
        obtain ⟨i, hil, rfl, hbr3⟩ := hrel
        by_cases hit : i < db.length
        ·
         obtain ⟨xb, xo, rfl, hxc⟩ := CellsAt.get HDX.out.2.1 hit
         obtain ⟨yb, yo, hye, hyc⟩ := CellsAt.get HDH.out.2.1 (show i < db'.length by have := HLN.out; omega)
         cases hye
         have hci := hxc i hit
         have hcl := hyc i (by have := HLN.out; omega)
         rw [Nat.zero_add] at hcl
         have hta := HDX.out.2.2 i hit
         have hla := HDH.out.2.2 i (by have := HLN.out; omega)
         obtain ⟨hsl, hsx⟩ := HSM.out i hit
         have HTI : Hid _ := HTB.out i hit
         clear hxc hyc
         obtain ⟨t, ht⟩ : ∃ t, t = db.getD i rz := ⟨_, rfl⟩
         obtain ⟨l, hl⟩ : ∃ l, l = db'.getD i rz := ⟨_, rfl⟩
         rw [← ht] at hci hta hsl hsx HTI
         rw [← hl] at hcl hla hsl hsx HTI
         clear ht hl
         obtain ⟨tad, tcap, rs⟩ := t
         obtain ⟨lad, lcap, lrs⟩ := l
         unfold RowsV.val at hci hcl
         simp only at hci hcl hsl hsx HTI
         have hRt : RowsAt w1 tad rs := hta
         have hRl : RowsAt w1 lad lrs := hla
         have hSR := fun x (hb : Below w1.heap.size w1 x) => sameRows_true lad tad lcap tcap lrs rs x (hRl.below hb) (hRt.below hb) hsl (fun j hj => hsx j (by omega))
         have hrl : rs.length ≤ 1152921504606846976 := hRt.1
         have HRT : Hid _ := hRt
         have HRL : Hid _ := hRl
         have HSL : Hid _ := hsl
         clear hta hla hRt hRl hsx hsl
         go_wp2
         refine wp_region_below (by kernel_rfl) (by kernel_rfl) ?_
         go_big_quiet_want
         refine ⟨.pointer (some ⟨G, 0, none⟩), fun x hx => ?_, ?_⟩
         · go_simp
         simp only [Act.put, List.setIfInBounds_toArray, List.set_cons_succ, List.set_cons_zero]
         go_big_quiet_on
         go_big_quiet_want
         refine ⟨.pointer (some ⟨G, 0, none⟩), fun x hx => ?_, ?_⟩
         · go_simp
         simp only [Act.put, List.setIfInBounds_toArray, List.set_cons_succ, List.set_cons_zero]
         go_big_quiet_on
         go_big_quiet_want
         refine ⟨.pointer (some ⟨G, 9, none⟩), fun x hx => ?_, ?_⟩
         · go_simp
         simp only [Act.put, List.setIfInBounds_toArray, List.set_cons_succ, List.set_cons_zero]
         go_big_quiet_on
         go_big_quiet_want
         refine ⟨.slice (some ⟨bd, 0, none⟩) db.length (db.length + 2), fun x hx => ?_, ?_⟩
         · have e := cell_below (Below.step hbr3 hx) g9
           go_simp
         simp only [Act.put, List.setIfInBounds_toArray, List.set_cons_succ, List.set_cons_zero]
         go_big_quiet_on
         go_big_quiet_want
         refine ⟨.int .i64 i, fun x hx => ?_, ?_⟩
         · go_simp
         simp only [Act.put, List.setIfInBounds_toArray, List.set_cons_succ, List.set_cons_zero]
         go_big_quiet_on
         go_big_quiet_want
         refine ⟨.pointer (some ⟨bd, i, none⟩), fun x hx => ?_, ?_⟩
         · go_simp
         simp only [Act.put, List.setIfInBounds_toArray, List.set_cons_succ, List.set_cons_zero]
         go_big_quiet_on
         go_big_quiet_want
         refine ⟨.slice lad lrs.length lcap, fun x hx => ?_, ?_⟩
         · have e := cell_below (Below.step hbr3 hx) hcl
           go_simp
         simp only [Act.put, List.setIfInBounds_toArray, List.set_cons_succ, List.set_cons_zero]
         go_big_quiet_on
         go_big_quiet_want
         refine ⟨.slice (some ⟨xb, xo, none⟩) db.length dcap, fun x hx => ?_, ?_⟩
         · go_simp
         simp only [Act.put, List.setIfInBounds_toArray, List.set_cons_succ, List.set_cons_zero]
         go_big_quiet_on
         go_big_quiet_want
         refine ⟨.int .i64 i, fun x hx => ?_, ?_⟩
         · go_simp
         simp only [Act.put, List.setIfInBounds_toArray, List.set_cons_succ, List.set_cons_zero]
         go_big_quiet_on
         go_big_quiet_want
         refine ⟨.pointer (some ⟨xb, xo + i, none⟩), fun x hx => ?_, ?_⟩
         · go_simp
         simp only [Act.put, List.setIfInBounds_toArray, List.set_cons_succ, List.set_cons_zero]
         go_big_quiet_on
         go_big_quiet_want
         refine ⟨.slice tad rs.length tcap, fun x hx => ?_, ?_⟩
         · have e := cell_below (Below.step hbr3 hx) hci
           go_simp
         simp only [Act.put, List.setIfInBounds_toArray, List.set_cons_succ, List.set_cons_zero]
         go_big_quiet_on
         go_big_quiet_want
         refine ⟨.bool true, fun x hx => ?_, ?_⟩
         · have hC := Calls.within hx (hSR x (Below.step hbr3 hx))
           go_simp
         simp only [Act.put, List.setIfInBounds_toArray, List.set_cons_succ, List.set_cons_zero]
         go_big_quiet_on
         go_big_quiet_want
         refine ⟨.bool true, fun x hx => ?_, ?_⟩
         · go_simp
         simp only [Act.put, List.setIfInBounds_toArray, List.set_cons_succ, List.set_cons_zero]
         go_big_quiet_on
         refine wpQuiet_nil ?_
         intro wq hbq
         have kq := Below.step hbr3 hbq
         clear hbq hbr3 hSR
         have eci := cell_below kq hci
         go_wp2
         clear eci
         go_loopw [25] (fun jv wr4 => ∃ j : Nat, j ≤ rs.length ∧ jv = .int .i64 j ∧ Below w1.heap.size w1 wr4) (fun jv _ => rs.length - (intOf jv).toNat)
         case atStart => exact ⟨0, Nat.zero_le _, rfl, kq⟩
         case round =>
          clear kq
          obtain ⟨j, hjl, rfl, hbr4⟩ := hrel
          have eci := cell_below hbr4 hci
          by_cases hjt : j < rs.length
          · obtain ⟨tb, to, rfl, htc⟩ := CellsAt.get HRT.out.2.1 hjt
            obtain ⟨lb, lo, rfl, hlc⟩ := CellsAt.get HRL.out.2.1 (show j < lrs.length by have := HSL.out; omega)
            have hcx := htc j hjt
            have hcB := hlc j (by have := HSL.out; omega)
            have hxa := HRT.out.2.2 j hjt
            obtain ⟨B, hBe, hBg⟩ := HTI.out j hjt
            rw [hBe] at hcB
            clear htc hlc hBe
            obtain ⟨x, hx0⟩ : ∃ x, x = rs.getD j iz := ⟨_, rfl⟩
            rw [← hx0] at hcx hcB hxa hBg
            clear hx0
            obtain ⟨xad, xcap, xs⟩ := x
            unfold IntsV.val at hcx hcB
            simp only at hcx hcB hBg
            have hxi : IntsAt w1 xad xs := hxa
            have hLE := fun x (hb : Below w1.heap.size w1 x) => lent_true B xad xcap xs x (hBg.of (hb.block _ hBg.lt)) (IntsAt.below hb hxi)
            have hjl2 : j < lrs.length := by have := HSL.out; omega
            have hlrl : lrs.length ≤ 1152921504606846976 := by have := HSL.out; omega
            clear hxa hxi hBg
            go_wp2
            refine wp_region_below (by kernel_rfl) (by kernel_rfl) ?_
            go_big_quiet_want
            refine ⟨.pointer (some ⟨G, 0, none⟩), fun x hx => ?_, ?_⟩
            · go_simp
            simp only [Act.put, List.setIfInBounds_toArray, List.set_cons_succ, List.set_cons_zero]
            go_big_quiet_on
            go_big_quiet_want
            refine ⟨.pointer (some ⟨G, 0, none⟩), fun x hx => ?_, ?_⟩
            · go_simp
            simp only [Act.put, List.setIfInBounds_toArray, List.set_cons_succ, List.set_cons_zero]
            go_big_quiet_on
            go_big_quiet_want
            refine ⟨.pointer (some ⟨G, 9, none⟩), fun x hx => ?_, ?_⟩
            · go_simp
            simp only [Act.put, List.setIfInBounds_toArray, List.set_cons_succ, List.set_cons_zero]
            go_big_quiet_on
            go_big_quiet_want
            refine ⟨.slice (some ⟨bd, 0, none⟩) db.length (db.length + 2), fun x hx => ?_, ?_⟩
            · have e := cell_below (Below.step hbr4 hx) g9
              go_simp
            simp only [Act.put, List.setIfInBounds_toArray, List.set_cons_succ, List.set_cons_zero]
            go_big_quiet_on
            go_big_quiet_want
            refine ⟨.int .i64 i, fun x hx => ?_, ?_⟩
            · go_simp
            simp only [Act.put, List.setIfInBounds_toArray, List.set_cons_succ, List.set_cons_zero]
            go_big_quiet_on
            go_big_quiet_want
            refine ⟨.pointer (some ⟨bd, i, none⟩), fun x hx => ?_, ?_⟩
            · go_simp
            simp only [Act.put, List.setIfInBounds_toArray, List.set_cons_succ, List.set_cons_zero]
            go_big_quiet_on
            go_big_quiet_want
            refine ⟨.slice (some ⟨lb, lo, none⟩) lrs.length lcap, fun x hx => ?_, ?_⟩
            · have e := cell_below (Below.step hbr4 hx) hcl
              go_simp
            simp only [Act.put, List.setIfInBounds_toArray, List.set_cons_succ, List.set_cons_zero]
            go_big_quiet_on
            go_big_quiet_want
            refine ⟨.int .i64 j, fun x hx => ?_, ?_⟩
            · go_simp
            simp only [Act.put, List.setIfInBounds_toArray, List.set_cons_succ, List.set_cons_zero]
            go_big_quiet_on
            go_big_quiet_want
            refine ⟨.pointer (some ⟨lb, lo + j, none⟩), fun x hx => ?_, ?_⟩
            · go_simp
            simp only [Act.put, List.setIfInBounds_toArray, List.set_cons_succ, List.set_cons_zero]
            go_big_quiet_on
            go_big_quiet_want
            refine ⟨.slice (some ⟨B, 0, none⟩) xs.length (xs.length + 2), fun x hx => ?_, ?_⟩
            · have e := cell_below (Below.step hbr4 hx) hcB
              go_simp
            simp only [Act.put, List.setIfInBounds_toArray, List.set_cons_succ, List.set_cons_zero]
            go_big_quiet_on
            go_big_quiet_want
            refine ⟨.slice (some ⟨xb, xo, none⟩) db.length dcap, fun x hx => ?_, ?_⟩
            · go_simp
            simp only [Act.put, List.setIfInBounds_toArray, List.set_cons_succ, List.set_cons_zero]
            go_big_quiet_on
            go_big_quiet_want
            refine ⟨.int .i64 i, fun x hx => ?_, ?_⟩
            · go_simp
            simp only [Act.put, List.setIfInBounds_toArray, List.set_cons_succ, List.set_cons_zero]
            go_big_quiet_on
            go_big_quiet_want
            refine ⟨.pointer (some ⟨xb, xo + i, none⟩), fun x hx => ?_, ?_⟩
            · go_simp
            simp only [Act.put, List.setIfInBounds_toArray, List.set_cons_succ, List.set_cons_zero]
            go_big_quiet_on
            go_big_quiet_want
            refine ⟨.slice (some ⟨tb, to, none⟩) rs.length tcap, fun x hx => ?_, ?_⟩
            · have e := cell_below (Below.step hbr4 hx) hci
              go_simp
            simp only [Act.put, List.setIfInBounds_toArray, List.set_cons_succ, List.set_cons_zero]
            go_big_quiet_on
            go_big_quiet_want
            refine ⟨.int .i64 j, fun x hx => ?_, ?_⟩
            · go_simp
            simp only [Act.put, List.setIfInBounds_toArray, List.set_cons_succ, List.set_cons_zero]
            go_big_quiet_on
            go_big_quiet_want
            refine ⟨.pointer (some ⟨tb, to + j, none⟩), fun x hx => ?_, ?_⟩
            · go_simp
            simp only [Act.put, List.setIfInBounds_toArray, List.set_cons_succ, List.set_cons_zero]
            go_big_quiet_on
            go_big_quiet_want
            refine ⟨.slice xad xs.length xcap, fun x hx => ?_, ?_⟩
            · have e := cell_below (Below.step hbr4 hx) hcx
              go_simp
            simp only [Act.put, List.setIfInBounds_toArray, List.set_cons_succ, List.set_cons_zero]
            go_big_quiet_on
            go_big_quiet_want
            refine ⟨.bool true, fun x hx => ?_, ?_⟩
            · have hC := Calls.within hx (hLE x (Below.step hbr4 hx))
              go_simp
            simp only [Act.put, List.setIfInBounds_toArray, List.set_cons_succ, List.set_cons_zero]
            go_big_quiet_on
            go_big_quiet_want
            refine ⟨.bool true, fun x hx => ?_, ?_⟩
            · go_simp
            simp only [Act.put, List.setIfInBounds_toArray, List.set_cons_succ, List.set_cons_zero]
            go_big_quiet_on
            refine wpQuiet_nil ?_
            intro wz hbz
            have kz := Below.step hbr4 hbz
            clear hbz hbr4 hLE eci
            go_wp2
            go_roundw
            case rel => exact ⟨j + 1, by omega, by go_num, kz⟩
            case measure => simp [intOf]; omega
          · go_wp2
            go_roundw
            case rel => exact ⟨i + 1, by omega, by go_num, hbr4⟩
            case measure => simp [intOf]; omega
        · go_wp2
          go_ret
          exact ⟨rfl, Below.step HK1.out hbr3⟩

end Go.Proofs.YtlpbelhfpoilpaaGreat

