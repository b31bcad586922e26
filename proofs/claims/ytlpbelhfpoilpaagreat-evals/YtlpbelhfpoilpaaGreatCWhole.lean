import Derived.Test.YtlpbelhfpoilpaaGreatCTables0Give0SameALentQ
import Derived.Test.YtlpbelhfpoilpaaGreatCEqArrBehindGvCSameD
set_option linter.all false
namespace Go.Proofs.YtlpbelhfpoilpaaGreat
open Go.RowKit Go.Scout

set_option maxRecDepth 20000 in
set_option maxHeartbeats 16000000 in
theorem whole_true (w0 w : World) (G : Nat) (ao : Option Addr) (cap : Nat) (ts : List TableD) (q : QueryV) (bc bf bk bu be bo bw bp bd : Nat) (v : Value) (A : Nat → Nat) (k1 k2 s1 i1 s2 i2 : Nat)
    (h : Giv w0 w G 43 76 74 78 3 54 51 29 23 ts q bc bf bk bu be bo bw bp bd v A k1 k2 s1 i1 s2 i2) (hx : TablesAt w0 ao ts) (hq : q.At w0) :
    Calls Tryz.prog 9 #[.pointer (some ⟨G, 0, none⟩), .slice ao ts.length cap, .agg q.cells, .slice none 0 0, .slice none 0 0] w fun e w' => e = .returned (.bool true) ∧ Below w.heap.size w w' := by
  have hts := hx.1
  obtain ⟨w1, hw1⟩ : ∃ x, x = w.alloc (.cells q.cells 26) := ⟨_, rfl⟩
  have hk1 : Below w.heap.size w w1 := by rw [hw1]; exact below_alloc _ _
  have hbox : GB w1 w.heap.size 26 q.cells := by rw [hw1]; exact heap_alloc_new _ _
  have H := Giv_below h hk1
  have hX : TablesAt w1 ao ts := hx.below H.bel
  have hQ : q.At w1 := hq.below H.bel
  have hT : TablesAt w1 (some ⟨bc, 0, none⟩) ts := tabsAt H.cat hts
  have hLQ : (lentQ q bf bk bu be bo bw A).At w1 := Giv_query H hq
  have hBH := fun x (hb : Below w1.heap.size w1 x) => behind_true w0 x G ts q bc bf bk bu be bo bw bp bd v A k1 k2 s1 i1 s2 i2 (Giv_below H hb) hts hq.wh.1 (fun i hi => (hq.wh.2.2 i hi).1)
  have hSW := fun x (hb : Below w1.heap.size w1 x) => sameWhere_true (some ⟨bw, 0, none⟩) q.wad (q.wh.length + 2) q.wcap (lentLs q.wh A) q.wh x (hLQ.wh.below hb) (hQ.wh.below hb) (lentLs_len _ _) (fun i hi => by rw [lentLs_len] at hi; rw [lentLs_at _ _ hi])
  have hL1 := fun x (hb : Below w1.heap.size w1 x) => lent_true bf q.src.ad q.src.cap q.src.xs x (H.src.of (hb.block _ H.src.lt)) (IntsAt.below hb hQ.src)
  have hL2 := fun x (hb : Below w1.heap.size w1 x) => lent_true bk q.keys.ad q.keys.cap q.keys.xs x (H.keys.of (hb.block _ H.keys.lt)) (IntsAt.below hb hQ.keys)
  have hL3 := fun x (hb : Below w1.heap.size w1 x) => lent_true bu q.sums.ad q.sums.cap q.sums.xs x (H.sums.of (hb.block _ H.sums.lt)) (IntsAt.below hb hQ.sums)
  have hL4 := fun x (hb : Below w1.heap.size w1 x) => lent_true be q.sel.ad q.sel.cap q.sel.xs x (H.sel.of (hb.block _ H.sel.lt)) (IntsAt.below hb hQ.sel)
  have hL5 := fun x (hb : Below w1.heap.size w1 x) => lent_true bo q.ord.ad q.ord.cap q.ord.xs x (H.ord.of (hb.block _ H.ord.lt)) (IntsAt.below hb hQ.ord)
  have hSP := fun x => samePlan_true (some ⟨bp, 0, none⟩) none 2 0 [] [] x ⟨by simp, fun i hi => absurd hi (by simp)⟩ ⟨by simp, fun i hi => absurd hi (by simp)⟩ rfl (fun i hi => absurd hi (by simp))
  simp only [List.length_nil] at hSP
  rw [lentLs_len] at hSW
  have g0 : w1.cell? ⟨G, 0, none⟩ = some (.slice (some ⟨bc, 0, none⟩) ts.length (ts.length + 2)) := H.g.cell 0
  have g1 : w1.cell? ⟨G, 1, none⟩ = some (.slice (some ⟨bf, 0, none⟩) q.src.xs.length (q.src.xs.length + 2)) := H.g.cell 1
  have g2 : w1.cell? ⟨G, 2, none⟩ = some (.slice (some ⟨bw, 0, none⟩) q.wh.length (q.wh.length + 2)) := H.g.cell 2
  have g4 : w1.cell? ⟨G, 4, none⟩ = some (.slice (some ⟨bk, 0, none⟩) q.keys.xs.length (q.keys.xs.length + 2)) := H.g.cell 4
  have g5 : w1.cell? ⟨G, 5, none⟩ = some (.slice (some ⟨bu, 0, none⟩) q.sums.xs.length (q.sums.xs.length + 2)) := H.g.cell 5
  have g6 : w1.cell? ⟨G, 6, none⟩ = some (.slice (some ⟨be, 0, none⟩) q.sel.xs.length (q.sel.xs.length + 2)) := H.g.cell 6
  have g7 : w1.cell? ⟨G, 7, none⟩ = some (.slice (some ⟨bo, 0, none⟩) q.ord.xs.length (q.ord.xs.length + 2)) := H.g.cell 7
  have g8 : w1.cell? ⟨G, 8, none⟩ = some (.slice (some ⟨bp, 0, none⟩) 0 2) := H.g.cell 8
  have g9 : w1.cell? ⟨G, 9, none⟩ = some (.slice (some ⟨bd, 0, none⟩) 0 2) := H.g.cell 9
  clear H h hLQ hQ hq hx
  obtain ⟨⟨sa, sc, src⟩, wad, wcap, wh, group, ⟨ka, kc, keys⟩, ⟨ua, uc, sums⟩, ⟨ea, ec, sel⟩, ⟨oa, oc, ord⟩⟩ := q
  unfold QueryV.cells IntsV.val at *
  simp only at *
  have x0 : w1.cell? ⟨w.heap.size, 0, none⟩ = some (.slice sa src.length sc) := hbox.cell 0
  have x1 : w1.cell? ⟨w.heap.size, 1, none⟩ = some (.slice wad wh.length wcap) := hbox.cell 1
  have x3 : w1.cell? ⟨w.heap.size, 3, none⟩ = some (.slice ka keys.length kc) := hbox.cell 3
  have x4 : w1.cell? ⟨w.heap.size, 4, none⟩ = some (.slice ua sums.length uc) := hbox.cell 4
  have x5 : w1.cell? ⟨w.heap.size, 5, none⟩ = some (.slice ea sel.length ec) := hbox.cell 5
  have x6 : w1.cell? ⟨w.heap.size, 6, none⟩ = some (.slice oa ord.length oc) := hbox.cell 6
  have HBW : Hid (Below w1.heap.size w1 (w.alloc (.cells #[.slice sa src.length sc, .slice wad wh.length wcap, .bool group, .slice ka keys.length kc, .slice ua sums.length uc, .slice ea sel.length ec, .slice oa ord.length oc] 26))) := show Below _ _ _ by rw [hw1]; exact Below.refl _ _
  have HK1 : Hid (Below w.heap.size w w1) := hk1
  clear hw1 hbox hk1
  have heq : ∀ (a b c e : Int) (x : World), (Op.equalIn 9999 52 (.agg #[.int .i64 a, .int .i64 b, .int .i64 c, .int .i64 e]) (.agg #[.int .i64 a, .int .i64 b, .int .i64 c, .int .i64 e])).run Tryz.prog x = .ok true x := fun a b c e x => eqArr4 9997 a b c e x
  go_enter Tryz.func9, Tryz.ntmps9
  go_wp2
  go_loopw [11] (fun i wr => ∃ k : Nat, k ≤ ts.length ∧ i = .int .i64 k ∧ Below w1.heap.size w1 wr) (fun i _ => ts.length - (intOf i).toNat)
  case atStart => exact ⟨0, Nat.zero_le _, rfl, HBW.out⟩
  case round =>
   clear HBW
   obtain ⟨k, hk, rfl, hbr⟩ := hrel
   by_cases hlt : k < ts.length
   · obtain ⟨b, off, rfl, c0, c1, c2, c3, c4, c5⟩ := hX.2 k hlt
     obtain ⟨b', off', he', d0, d1, d2, d3, d4, d5⟩ := hT.2 k hlt
     cases he'
     generalize ts.getD k tz = t at *
     have m0 := cell_below hbr c0
     have m1 := cell_below hbr c1
     have m2 := cell_below hbr c2
     have m3 := cell_below hbr c3
     have m4 := cell_below hbr c4
     have m5 := cell_below hbr c5
     have n0 := cell_below hbr d0
     have n1 := cell_below hbr d1
     have n2 := cell_below hbr d2
     have n3 := cell_below hbr d3
     have n4 := cell_below hbr d4
     have n5 := cell_below hbr d5
     have gg := cell_below hbr g0
     simp only [Nat.zero_add] at n0 n1 n2 n3 n4 n5
     clear c0 c1 c2 c3 c4 c5 d0 d1 d2 d3 d4 d5 hX hT hBH hSW hL1 hL2 hL3 hL4 hL5 hSP
     go_wp2
     go_quiet (fail)
     go_wp2
     go_roundw
     case rel => exact ⟨k + 1, by omega, by go_num, below_drewN hbr _⟩
     case measure => simp [intOf]; omega
   · clear hX hT heq
     go_wp2
     refine wp_region_below (by kernel_rfl) (by kernel_rfl) ?_
     go_big_quiet_want
     refine ⟨.pointer (some ⟨G, 0, none⟩), fun x hx => ?_, ?_⟩
     · go_simp
     simp only [Act.put, List.setIfInBounds_toArray, List.set_cons_succ, List.set_cons_zero]
     go_big_quiet_on
     go_big_quiet_want
     refine ⟨.pointer (some ⟨G, 0, none⟩), fun x hx => ?_, ?_⟩
     · go_simp
     simp only [Act.put, List.setIfInBounds_toArray, List.set_cons_succ, List.set_cons_zero]
     go_big_quiet_on
     go_big_quiet_want
     refine ⟨.pointer (some ⟨G, 1, none⟩), fun x hx => ?_, ?_⟩
     · go_simp
     simp only [Act.put, List.setIfInBounds_toArray, List.set_cons_succ, List.set_cons_zero]
     go_big_quiet_on
     go_big_quiet_want
     refine ⟨.pointer (some ⟨G, 2, none⟩), fun x hx => ?_, ?_⟩
     · go_simp
     simp only [Act.put, List.setIfInBounds_toArray, List.set_cons_succ, List.set_cons_zero]
     go_big_quiet_on
     go_big_quiet_want
     refine ⟨.slice (some ⟨bw, 0, none⟩) wh.length (wh.length + 2), fun x hx => ?_, ?_⟩
     · have e := cell_below (Below.step hbr hx) g2
       go_simp
     simp only [Act.put, List.setIfInBounds_toArray, List.set_cons_succ, List.set_cons_zero]
     go_big_quiet_on
     go_big_quiet_want
     refine ⟨.pointer (some ⟨w.heap.size, 1, none⟩), fun x hx => ?_, ?_⟩
     · go_simp
     simp only [Act.put, List.setIfInBounds_toArray, List.set_cons_succ, List.set_cons_zero]
     go_big_quiet_on
     go_big_quiet_want
     refine ⟨.slice wad wh.length wcap, fun x hx => ?_, ?_⟩
     · have e := cell_below (Below.step hbr hx) x1
       go_simp
     simp only [Act.put, List.setIfInBounds_toArray, List.set_cons_succ, List.set_cons_zero]
     go_big_quiet_on
     go_big_quiet_want
     refine ⟨.bool true, fun x hx => ?_, ?_⟩
     · have hC := Calls.within hx (hSW x (Below.step hbr hx))
       go_simp
     simp only [Act.put, List.setIfInBounds_toArray, List.set_cons_succ, List.set_cons_zero]
     go_big_quiet_on
     go_big_quiet_want
     refine ⟨.bool true, fun x hx => ?_, ?_⟩
     · go_simp
     simp only [Act.put, List.setIfInBounds_toArray, List.set_cons_succ, List.set_cons_zero]
     go_big_quiet_on
     refine wpQuiet_nil ?_
     intro wa hbwa
     have ka1 := Below.step hbr hbwa
     clear hbwa hbr
     go_wp2
     refine wp_region_below (by kernel_rfl) (by kernel_rfl) ?_
     go_big_quiet_want
     refine ⟨.pointer (some ⟨G, 0, none⟩), fun x hx => ?_, ?_⟩
     · go_simp
     simp only [Act.put, List.setIfInBounds_toArray, List.set_cons_succ, List.set_cons_zero]
     go_big_quiet_on
     go_big_quiet_want
     refine ⟨.pointer (some ⟨G, 0, none⟩), fun x hx => ?_, ?_⟩
     · go_simp
     simp only [Act.put, List.setIfInBounds_toArray, List.set_cons_succ, List.set_cons_zero]
     go_big_quiet_on
     go_big_quiet_want
     refine ⟨.pointer (some ⟨G, 1, none⟩), fun x hx => ?_, ?_⟩
     · go_simp
     simp only [Act.put, List.setIfInBounds_toArray, List.set_cons_succ, List.set_cons_zero]
     go_big_quiet_on
     go_big_quiet_want
     refine ⟨.pointer (some ⟨G, 1, none⟩), fun x hx => ?_, ?_⟩
     · go_simp
     simp only [Act.put, List.setIfInBounds_toArray, List.set_cons_succ, List.set_cons_zero]
     go_big_quiet_on
     go_big_quiet_want
     refine ⟨.slice (some ⟨bf, 0, none⟩) src.length (src.length + 2), fun x hx => ?_, ?_⟩
     · have e := cell_below (Below.step ka1 hx) g1
       go_simp
     simp only [Act.put, List.setIfInBounds_toArray, List.set_cons_succ, List.set_cons_zero]
     go_big_quiet_on
     go_big_quiet_want
     refine ⟨.pointer (some ⟨w.heap.size, 0, none⟩), fun x hx => ?_, ?_⟩
     · go_simp
     simp only [Act.put, List.setIfInBounds_toArray, List.set_cons_succ, List.set_cons_zero]
     go_big_quiet_on
     go_big_quiet_want
     refine ⟨.slice sa src.length sc, fun x hx => ?_, ?_⟩
     · have e := cell_below (Below.step ka1 hx) x0
       go_simp
     simp only [Act.put, List.setIfInBounds_toArray, List.set_cons_succ, List.set_cons_zero]
     go_big_quiet_on
     go_big_quiet_want
     refine ⟨.bool true, fun x hx => ?_, ?_⟩
     · have hC := Calls.within hx (hL1 x (Below.step ka1 hx))
       go_simp
     simp only [Act.put, List.setIfInBounds_toArray, List.set_cons_succ, List.set_cons_zero]
     go_big_quiet_on
     go_big_quiet_want
     refine ⟨.bool true, fun x hx => ?_, ?_⟩
     · go_simp
     simp only [Act.put, List.setIfInBounds_toArray, List.set_cons_succ, List.set_cons_zero]
     go_big_quiet_on
     refine wpQuiet_nil ?_
     intro wb hbwb
     have kb1 := Below.step ka1 hbwb
     clear hbwb ka1
     go_wp2
     refine wp_region_below (by kernel_rfl) (by kernel_rfl) ?_
     go_big_quiet_want
     refine ⟨.pointer (some ⟨G, 0, none⟩), fun x hx => ?_, ?_⟩
     · go_simp
     simp only [Act.put, List.setIfInBounds_toArray, List.set_cons_succ, List.set_cons_zero]
     go_big_quiet_on
     go_big_quiet_want
     refine ⟨.pointer (some ⟨G, 0, none⟩), fun x hx => ?_, ?_⟩
     · go_simp
     simp only [Act.put, List.setIfInBounds_toArray, List.set_cons_succ, List.set_cons_zero]
     go_big_quiet_on
     go_big_quiet_want
     refine ⟨.pointer (some ⟨G, 1, none⟩), fun x hx => ?_, ?_⟩
     · go_simp
     simp only [Act.put, List.setIfInBounds_toArray, List.set_cons_succ, List.set_cons_zero]
     go_big_quiet_on
     go_big_quiet_want
     refine ⟨.pointer (some ⟨G, 4, none⟩), fun x hx => ?_, ?_⟩
     · go_simp
     simp only [Act.put, List.setIfInBounds_toArray, List.set_cons_succ, List.set_cons_zero]
     go_big_quiet_on
     go_big_quiet_want
     refine ⟨.slice (some ⟨bk, 0, none⟩) keys.length (keys.length + 2), fun x hx => ?_, ?_⟩
     · have e := cell_below (Below.step kb1 hx) g4
       go_simp
     simp only [Act.put, List.setIfInBounds_toArray, List.set_cons_succ, List.set_cons_zero]
     go_big_quiet_on
     go_big_quiet_want
     refine ⟨.pointer (some ⟨w.heap.size, 3, none⟩), fun x hx => ?_, ?_⟩
     · go_simp
     simp only [Act.put, List.setIfInBounds_toArray, List.set_cons_succ, List.set_cons_zero]
     go_big_quiet_on
     go_big_quiet_want
     refine ⟨.slice ka keys.length kc, fun x hx => ?_, ?_⟩
     · have e := cell_below (Below.step kb1 hx) x3
       go_simp
     simp only [Act.put, List.setIfInBounds_toArray, List.set_cons_succ, List.set_cons_zero]
     go_big_quiet_on
     go_big_quiet_want
     refine ⟨.bool true, fun x hx => ?_, ?_⟩
     · have hC := Calls.within hx (hL2 x (Below.step kb1 hx))
       go_simp
     simp only [Act.put, List.setIfInBounds_toArray, List.set_cons_succ, List.set_cons_zero]
     go_big_quiet_on
     go_big_quiet_want
     refine ⟨.bool true, fun x hx => ?_, ?_⟩
     · go_simp
     simp only [Act.put, List.setIfInBounds_toArray, List.set_cons_succ, List.set_cons_zero]
     go_big_quiet_on
     refine wpQuiet_nil ?_
     intro wc hbwc
     have kc1 := Below.step kb1 hbwc
     clear hbwc kb1
     go_wp2
     refine wp_region_below (by kernel_rfl) (by kernel_rfl) ?_
     go_big_quiet_want
     refine ⟨.pointer (some ⟨G, 0, none⟩), fun x hx => ?_, ?_⟩
     · go_simp
     simp only [Act.put, List.setIfInBounds_toArray, List.set_cons_succ, List.set_cons_zero]
     go_big_quiet_on
     go_big_quiet_want
     refine ⟨.pointer (some ⟨G, 0, none⟩), fun x hx => ?_, ?_⟩
     · go_simp
     simp only [Act.put, List.setIfInBounds_toArray, List.set_cons_succ, List.set_cons_zero]
     go_big_quiet_on
     go_big_quiet_want
     refine ⟨.pointer (some ⟨G, 1, none⟩), fun x hx => ?_, ?_⟩
     · go_simp
     simp only [Act.put, List.setIfInBounds_toArray, List.set_cons_succ, List.set_cons_zero]
     go_big_quiet_on
     go_big_quiet_want
     refine ⟨.pointer (some ⟨G, 5, none⟩), fun x hx => ?_, ?_⟩
     · go_simp
     simp only [Act.put, List.setIfInBounds_toArray, List.set_cons_succ, List.set_cons_zero]
     go_big_quiet_on
     go_big_quiet_want
     refine ⟨.slice (some ⟨bu, 0, none⟩) sums.length (sums.length + 2), fun x hx => ?_, ?_⟩
     · have e := cell_below (Below.step kc1 hx) g5
       go_simp
     simp only [Act.put, List.setIfInBounds_toArray, List.set_cons_succ, List.set_cons_zero]
     go_big_quiet_on
     go_big_quiet_want
     refine ⟨.pointer (some ⟨w.heap.size, 4, none⟩), fun x hx => ?_, ?_⟩
     · go_simp
     simp only [Act.put, List.setIfInBounds_toArray, List.set_cons_succ, List.set_cons_zero]
     go_big_quiet_on
     go_big_quiet_want
     refine ⟨.slice ua sums.length uc, fun x hx => ?_, ?_⟩
     · have e := cell_below (Below.step kc1 hx) x4
       go_simp
     simp only [Act.put, List.setIfInBounds_toArray, List.set_cons_succ, List.set_cons_zero]
     go_big_quiet_on
     go_big_quiet_want
     refine ⟨.bool true, fun x hx => ?_, ?_⟩
     · have hC := Calls.within hx (hL3 x (Below.step kc1 hx))
       go_simp
     simp only [Act.put, List.setIfInBounds_toArray, List.set_cons_succ, List.set_cons_zero]
     go_big_quiet_on
     go_big_quiet_want
     refine ⟨.bool true, fun x hx => ?_, ?_⟩
     · go_simp
     simp only [Act.put, List.setIfInBounds_toArray, List.set_cons_succ, List.set_cons_zero]
     go_big_quiet_on
     refine wpQuiet_nil ?_
     intro wd hbwd
     have kd1 := Below.step kc1 hbwd
     clear hbwd kc1
     go_wp2
     refine wp_region_below (by kernel_rfl) (by kernel_rfl) ?_
     go_big_quiet_want
     refine ⟨.pointer (some ⟨G, 0, none⟩), fun x hx => ?_, ?_⟩
     · go_simp
     simp only [Act.put, List.setIfInBounds_toArray, List.set_cons_succ, List.set_cons_zero]
     go_big_quiet_on
     go_big_quiet_want
     refine ⟨.pointer (some ⟨G, 0, none⟩), fun x hx => ?_, ?_⟩
     · go_simp
     simp only [Act.put, List.setIfInBounds_toArray, List.set_cons_succ, List.set_cons_zero]
     go_big_quiet_on
     go_big_quiet_want
     refine ⟨.pointer (some ⟨G, 1, none⟩), fun x hx => ?_, ?_⟩
     · go_simp
     simp only [Act.put, List.setIfInBounds_toArray, List.set_cons_succ, List.set_cons_zero]
     go_big_quiet_on
     go_big_quiet_want
     refine ⟨.pointer (some ⟨G, 6, none⟩), fun x hx => ?_, ?_⟩
     · go_simp
     simp only [Act.put, List.setIfInBounds_toArray, List.set_cons_succ, List.set_cons_zero]
     go_big_quiet_on
     go_big_quiet_want
     refine ⟨.slice (some ⟨be, 0, none⟩) sel.length (sel.length + 2), fun x hx => ?_, ?_⟩
     · have e := cell_below (Below.step kd1 hx) g6
       go_simp
     simp only [Act.put, List.setIfInBounds_toArray, List.set_cons_succ, List.set_cons_zero]
     go_big_quiet_on
     go_big_quiet_want
     refine ⟨.pointer (some ⟨w.heap.size, 5, none⟩), fun x hx => ?_, ?_⟩
     · go_simp
     simp only [Act.put, List.setIfInBounds_toArray, List.set_cons_succ, List.set_cons_zero]
     go_big_quiet_on
     go_big_quiet_want
     refine ⟨.slice ea sel.length ec, fun x hx => ?_, ?_⟩
     · have e := cell_below (Below.step kd1 hx) x5
       go_simp
     simp only [Act.put, List.setIfInBounds_toArray, List.set_cons_succ, List.set_cons_zero]
     go_big_quiet_on
     go_big_quiet_want
     refine ⟨.bool true, fun x hx => ?_, ?_⟩
     · have hC := Calls.within hx (hL4 x (Below.step kd1 hx))
       go_simp
     simp only [Act.put, List.setIfInBounds_toArray, List.set_cons_succ, List.set_cons_zero]
     go_big_quiet_on
     go_big_quiet_want
     refine ⟨.bool true, fun x hx => ?_, ?_⟩
     · go_simp
     simp only [Act.put, List.setIfInBounds_toArray, List.set_cons_succ, List.set_cons_zero]
     go_big_quiet_on
     refine wpQuiet_nil ?_
     intro we hbwe
     have ke1 := Below.step kd1 hbwe
     clear hbwe kd1
     go_wp2
     refine wp_region_below (by kernel_rfl) (by kernel_rfl) ?_
     go_big_quiet_want
     refine ⟨.pointer (some ⟨G, 0, none⟩), fun x hx => ?_, ?_⟩
     · go_simp
     simp only [Act.put, List.setIfInBounds_toArray, List.set_cons_succ, List.set_cons_zero]
     go_big_quiet_on
     go_big_quiet_want
     refine ⟨.pointer (some ⟨G, 0, none⟩), fun x hx => ?_, ?_⟩
     · go_simp
     simp only [Act.put, List.setIfInBounds_toArray, List.set_cons_succ, List.set_cons_zero]
     go_big_quiet_on
     go_big_quiet_want
     refine ⟨.pointer (some ⟨G, 1, none⟩), fun x hx => ?_, ?_⟩
     · go_simp
     simp only [Act.put, List.setIfInBounds_toArray, List.set_cons_succ, List.set_cons_zero]
     go_big_quiet_on
     go_big_quiet_want
     refine ⟨.pointer (some ⟨G, 7, none⟩), fun x hx => ?_, ?_⟩
     · go_simp
     simp only [Act.put, List.setIfInBounds_toArray, List.set_cons_succ, List.set_cons_zero]
     go_big_quiet_on
     go_big_quiet_want
     refine ⟨.slice (some ⟨bo, 0, none⟩) ord.length (ord.length + 2), fun x hx => ?_, ?_⟩
     · have e := cell_below (Below.step ke1 hx) g7
       go_simp
     simp only [Act.put, List.setIfInBounds_toArray, List.set_cons_succ, List.set_cons_zero]
     go_big_quiet_on
     go_big_quiet_want
     refine ⟨.pointer (some ⟨w.heap.size, 6, none⟩), fun x hx => ?_, ?_⟩
     · go_simp
     simp only [Act.put, List.setIfInBounds_toArray, List.set_cons_succ, List.set_cons_zero]
     go_big_quiet_on
     go_big_quiet_want
     refine ⟨.slice oa ord.length oc, fun x hx => ?_, ?_⟩
     · have e := cell_below (Below.step ke1 hx) x6
       go_simp
     simp only [Act.put, List.setIfInBounds_toArray, List.set_cons_succ, List.set_cons_zero]
     go_big_quiet_on
     go_big_quiet_want
     refine ⟨.bool true, fun x hx => ?_, ?_⟩
     · have hC := Calls.within hx (hL5 x (Below.step ke1 hx))
       go_simp
     simp only [Act.put, List.setIfInBounds_toArray, List.set_cons_succ, List.set_cons_zero]
     go_big_quiet_on
     go_big_quiet_want
     refine ⟨.bool true, fun x hx => ?_, ?_⟩
     · go_simp
     simp only [Act.put, List.setIfInBounds_toArray, List.set_cons_succ, List.set_cons_zero]
     go_big_quiet_on
     refine wpQuiet_nil ?_
     intro wf hbwf
     have kf1 := Below.step ke1 hbwf
     clear hbwf ke1
     have e8 := cell_below kf1 g8
     clear hSW hL1 hL2 hL3 hL4 hL5 g0 g1 g2 g4 g5 g6 g7 x0 x1 x3 x4 x5 x6
     go_wp2_with fail
     refine (hSP _).mono ?_
     rintro e wg ⟨rfl, hbg⟩
     have kg := Below.step kf1 hbg
     clear hSP e8 hbg kf1
     go_wp2_with fail
     refine (hBH _ kg).mono ?_
     rintro e wh9 ⟨rfl, hbh⟩
     have kh := Below.step kg hbh
     have e9 := cell_below kh g9
     clear hBH hbh kg g8 g9
     go_wp2
     go_loopw [20] (fun i wr2 => i = .int .i64 0 ∧ Below w1.heap.size w1 wr2) (fun _ _ => 0)
     case atStart => exact ⟨rfl, kh⟩
     case round =>
       obtain ⟨rfl, hbr2⟩ := hrel
       clear e9 kh
       go_wp2
       go_loopw [23] (fun i wr2 => i = .int .i64 0 ∧ Below w1.heap.size w1 wr2) (fun _ _ => 0)
       case atStart => exact ⟨rfl, hbr2⟩
       case round =>
         obtain ⟨rfl, hbr3⟩ := hrel
         go_wp2
         go_ret
         exact ⟨rfl, Below.step HK1.out hbr3⟩

end Go.Proofs.YtlpbelhfpoilpaaGreat

