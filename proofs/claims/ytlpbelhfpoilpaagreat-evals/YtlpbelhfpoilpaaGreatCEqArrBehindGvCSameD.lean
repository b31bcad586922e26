import Derived.Test.YtlpbelhfpoilpaaGreatCBaseRItAItBItC
import Derived.Test.YtlpbelhfpoilpaaGreatCTables0Give0SameALentQ
import Derived.Test.YtlpbelhfpoilpaaGreatCGvAGvBSameBSameC
set_option linter.all false
namespace Go.Proofs.YtlpbelhfpoilpaaGreat
open Go.RowKit Go.Scout

/-- Two arrays of four numbers, the same: equal. -/
theorem eqArr4 (d : Nat) (a b c e : Int) (w : World) : (Op.equalIn (d + 2) 52 (.agg #[.int .i64 a, .int .i64 b, .int .i64 c, .int .i64 e]) (.agg #[.int .i64 a, .int .i64 b, .int .i64 c, .int .i64 e])).run Tryz.prog w = .ok true w := by
  have hu := Tryz.underlying52
  have hi := fun (x : Int) => run_equalIn_int (P := Tryz.prog) w d 3 .i64 .i64 x x Tryz.underlying3
  rw [Op.equalIn]
  simp only [Sem.run_bind, run_underlying hu, Result.andThen_ok]
  simp [go_sem, Std.Legacy.Range.forIn_eq_forIn_range', Std.Legacy.Range.size, List.range', hi]

end Go.Proofs.YtlpbelhfpoilpaaGreat

namespace Go.Proofs.YtlpbelhfpoilpaaGreat
open Go.RowKit Go.Scout

theorem tab_ink0 (ts : List TableD) (j : Nat) (h : j < 6) : (lentTabs ts)[ts.length * 6 + j]? = it[j]? := by
  unfold lentTabs
  rw [List.getElem?_toArray, flat_tail _ 6 tvals_len, List.getElem?_append_left (by simpa [it] using h)]
theorem tab_ink1 (ts : List TableD) (j : Nat) (_h : j < 6) : (lentTabs ts)[(ts.length + 1) * 6 + j]? = it[j]? := by
  unfold lentTabs
  rw [List.getElem?_toArray, show (ts.length + 1) * 6 + j = ts.length * 6 + (6 + j) by omega, flat_tail _ 6 tvals_len, List.getElem?_append_right (by simp [it])]
  simp [it]
theorem con_ink0 (cs : List CondD) (j : Nat) (h : j < 5) : (lentConds cs)[cs.length * 5 + j]? = ic[j]? := by
  unfold lentConds
  rw [List.getElem?_toArray, flat_tail _ 5 cvals_len, List.getElem?_append_left (by simpa [ic] using h)]
theorem con_ink1 (cs : List CondD) (j : Nat) (_h : j < 5) : (lentConds cs)[(cs.length + 1) * 5 + j]? = ic[j]? := by
  unfold lentConds
  rw [List.getElem?_toArray, show (cs.length + 1) * 5 + j = cs.length * 5 + (5 + j) by omega, flat_tail _ 5 cvals_len, List.getElem?_append_right (by simp [ic])]
  simp [ic]

def inkN : NodeV := ⟨77777, 0, 0, 0, ⟨none, 0, []⟩, 0, ⟨none, 0, []⟩⟩
def inkC : CondD := ⟨false, 77777, 0, false, 0⟩

theorem nil_at (w : World) : IntsAt w none [] := ⟨by simp, fun i hi => absurd hi (by simp)⟩

theorem nodes2_at {w : World} {b t : Nat} (h : GB w b t (nk ++ nk).toArray) : NodesAt w (some ⟨b, 0, none⟩) [inkN, inkN] := by
  refine ⟨by simp, fun i hi => ?_⟩
  have hi2 : i < 2 := by simpa using hi
  rcases (by omega : i = 0 ∨ i = 1) with rfl | rfl
  · exact ⟨b, 0, rfl, h.cell _, h.cell _, h.cell _, h.cell _, h.cell _, h.cell _, h.cell _, nil_at w, nil_at w⟩
  · exact ⟨b, 0, rfl, h.cell _, h.cell _, h.cell _, h.cell _, h.cell _, h.cell _, h.cell _, nil_at w, nil_at w⟩

theorem ink1_at {w : World} {b t : Nat} (h : GB w b t ic.toArray) : CondsAt w (some ⟨b, 0, none⟩) [inkC] := by
  refine ⟨by simp, fun i hi => ?_⟩
  have hi2 : i = 0 := by simpa using hi
  subst hi2
  exact ⟨b, 0, rfl, h.cell _, h.cell _, h.cell _, h.cell _, h.cell _⟩

/-- Two clauses, each of one inked condition. -/
theorem ink2_at {w : World} {b o t k1 k2 : Nat} (h0 : w.cell? ⟨b, o, none⟩ = some (.slice (some ⟨k1, 0, none⟩) 1 1)) (h1 : w.cell? ⟨b, o + 1, none⟩ = some (.slice (some ⟨k2, 0, none⟩) 1 1)) (hk1 : GB w k1 t ic.toArray) (hk2 : GB w k2 t ic.toArray) :
    ClausesAt w (some ⟨b, o, none⟩) [⟨some ⟨k1, 0, none⟩, 1, [inkC]⟩, ⟨some ⟨k2, 0, none⟩, 1, [inkC]⟩] := by
  refine ⟨by simp, fun i hi => ?_, fun i hi => ?_⟩
  · have hi2 : i < 2 := by simpa using hi
    rcases (by omega : i = 0 ∨ i = 1) with rfl | rfl
    · exact ⟨b, o, rfl, h0⟩
    · exact ⟨b, o, rfl, h1⟩
  · have hi2 : i < 2 := by simpa using hi
    rcases (by omega : i = 0 ∨ i = 1) with rfl | rfl
    · exact ink1_at hk1
    · exact ink1_at hk2

theorem ink_same (a b c d : Nat) : ∀ i, i < [(⟨some ⟨a, 0, none⟩, 1, [inkC]⟩ : ClauseV), ⟨some ⟨b, 0, none⟩, 1, [inkC]⟩].length →
    ([(⟨some ⟨a, 0, none⟩, 1, [inkC]⟩ : ClauseV), ⟨some ⟨b, 0, none⟩, 1, [inkC]⟩].getD i lz).cs = ([(⟨some ⟨c, 0, none⟩, 1, [inkC]⟩ : ClauseV), ⟨some ⟨d, 0, none⟩, 1, [inkC]⟩].getD i lz).cs := fun i hi => by
  have hi2 : i < 2 := by simpa using hi
  rcases (by omega : i = 0 ∨ i = 1) with rfl | rfl <;> rfl

set_option maxRecDepth 20000 in
set_option maxHeartbeats 8000000 in
theorem behind_true (w0 w : World) (G : Nat) (ts : List TableD) (q : QueryV) (bc bf bk bu be bo bw bp bd : Nat) (v : Value) (A : Nat → Nat) (k1 k2 s1 i1 s2 i2 : Nat)
    (h : Giv w0 w G 43 76 74 78 3 54 51 29 23 ts q bc bf bk bu be bo bw bp bd v A k1 k2 s1 i1 s2 i2)
    (hts : ts.length ≤ 192153584101141162) (hwl : q.wh.length ≤ 1152921504606846976) (hcl : ∀ i, i < q.wh.length → (q.wh.getD i lz).cs.length ≤ 230584300921369395) :
    Calls Tryz.prog 31 #[.pointer (some ⟨G, 0, none⟩)] w fun e w' => e = .returned (.bool true) ∧ Below w.heap.size w w' := by
  have g10 : w.cell? ⟨G, 10, none⟩ = some (.slice (some ⟨bc, 0, none⟩) (ts.length + 2) (ts.length + 2)) := h.g.cell 10
  have g13 : w.cell? ⟨G, 13, none⟩ = some (.slice (some ⟨bp, 0, none⟩) 2 2) := h.g.cell 13
  have a0 : w.cell? ⟨bc, ts.length * 6, none⟩ = some (.int .i64 77777) := (h.cat.cell _).trans (tab_ink0 ts 0 (by omega))
  have a1 : w.cell? ⟨bc, ts.length * 6 + 1, none⟩ = some (.int .i64 0) := (h.cat.cell _).trans (tab_ink0 ts 1 (by omega))
  have a2 : w.cell? ⟨bc, ts.length * 6 + 2, none⟩ = some (.int .i64 0) := (h.cat.cell _).trans (tab_ink0 ts 2 (by omega))
  have a3 : w.cell? ⟨bc, ts.length * 6 + 3, none⟩ = some (.int .i64 0) := (h.cat.cell _).trans (tab_ink0 ts 3 (by omega))
  have a4 : w.cell? ⟨bc, ts.length * 6 + 4, none⟩ = some (.int .i64 0) := (h.cat.cell _).trans (tab_ink0 ts 4 (by omega))
  have a5 : w.cell? ⟨bc, ts.length * 6 + 5, none⟩ = some (.int .i64 0) := (h.cat.cell _).trans (tab_ink0 ts 5 (by omega))
  have b0 : w.cell? ⟨bc, (ts.length + 1) * 6, none⟩ = some (.int .i64 77777) := (h.cat.cell _).trans (tab_ink1 ts 0 (by omega))
  have b1 : w.cell? ⟨bc, (ts.length + 1) * 6 + 1, none⟩ = some (.int .i64 0) := (h.cat.cell _).trans (tab_ink1 ts 1 (by omega))
  have b2 : w.cell? ⟨bc, (ts.length + 1) * 6 + 2, none⟩ = some (.int .i64 0) := (h.cat.cell _).trans (tab_ink1 ts 2 (by omega))
  have b3 : w.cell? ⟨bc, (ts.length + 1) * 6 + 3, none⟩ = some (.int .i64 0) := (h.cat.cell _).trans (tab_ink1 ts 3 (by omega))
  have b4 : w.cell? ⟨bc, (ts.length + 1) * 6 + 4, none⟩ = some (.int .i64 0) := (h.cat.cell _).trans (tab_ink1 ts 4 (by omega))
  have b5 : w.cell? ⟨bc, (ts.length + 1) * 6 + 5, none⟩ = some (.int .i64 0) := (h.cat.cell _).trans (tab_ink1 ts 5 (by omega))
  have heq : ∀ (a b c e : Int) (x : World), (Op.equalIn 9999 52 (.agg #[.int .i64 a, .int .i64 b, .int .i64 c, .int .i64 e]) (.agg #[.int .i64 a, .int .i64 b, .int .i64 c, .int .i64 e])).run Tryz.prog x = .ok true x := fun a b c e x => eqArr4 9997 a b c e x
  go_enter Tryz.func31, Tryz.ntmps31
  go_wp2_with fail
  have hN1 : GB (w.alloc (.cells (nk ++ nk).toArray 51)) bp 51 (nk ++ nk).toArray := h.plan.of (heap_alloc h.plan.lt)
  have hN2 : GB (w.alloc (.cells (nk ++ nk).toArray 51)) w.heap.size 51 (nk ++ nk).toArray := heap_alloc_new _ _
  refine (samePlan_true (some ⟨bp, 0, none⟩) (some ⟨w.heap.size, 0, none⟩) 2 2 [inkN, inkN] [inkN, inkN] _ (nodes2_at hN1) (nodes2_at hN2) rfl (fun i hi => ⟨rfl, rfl, rfl, rfl, rfl, rfl, rfl⟩)).mono ?_
  rintro e w2 ⟨rfl, hb2⟩
  have k2' := Below.step (below_alloc _ _) hb2
  clear hN1 hN2 hb2 a0 a1 a2 a3 a4 a5 b0 b1 b2 b3 b4 b5 heq
  go_wp2_with fail
  have hw3 : ∃ w3, w3 = ((w2.alloc (.cells ic.toArray 78)).alloc (.cells ic.toArray 78)).alloc (.cells #[.slice (some ⟨w2.heap.size, 0, none⟩) 1 1, .slice (some ⟨w2.heap.size + 1, 0, none⟩) 1 1] 76) := ⟨_, rfl⟩
  obtain ⟨w3, hw3⟩ := hw3
  have k3 : Below w.heap.size w w3 := by rw [hw3]; exact Below.step k2' (Below.step (below_alloc _ _) (Below.step (below_alloc _ _) (below_alloc _ _)))
  have o0 : GB w3 w2.heap.size 78 ic.toArray := by
    show w3.heap[_]? = _
    rw [hw3, heap_alloc (by simp only [World.size_alloc]; omega), heap_alloc (by simp only [World.size_alloc]; omega), heap_alloc_new]
  have o1 : GB w3 (w2.heap.size + 1) 78 ic.toArray := by
    show w3.heap[_]? = _
    rw [hw3, heap_alloc (by simp only [World.size_alloc]; omega), show w2.heap.size + 1 = (w2.alloc (.cells ic.toArray 78)).heap.size by simp, heap_alloc_new]
  have o2 : GB w3 (w2.heap.size + 2) 76 #[.slice (some ⟨w2.heap.size, 0, none⟩) 1 1, .slice (some ⟨w2.heap.size + 1, 0, none⟩) 1 1] := by
    show w3.heap[_]? = _
    rw [hw3, show w2.heap.size + 2 = ((w2.alloc (.cells ic.toArray 78)).alloc (.cells ic.toArray 78)).heap.size by simp, heap_alloc_new]
  have hO := ink2_at (o2.cell 0) (o2.cell 1) o0 o1
  have hrow0 : w.cell? ⟨bw, q.wh.length, none⟩ = some (.slice (some ⟨k1, 0, none⟩) 1 1) := by rw [h.row.cell (by omega), if_neg (by omega), if_pos rfl]
  have hrow1 : w.cell? ⟨bw, q.wh.length + 1, none⟩ = some (.slice (some ⟨k2, 0, none⟩) 1 1) := by rw [h.row.cell (by omega), if_neg (by omega), if_neg (by omega)]
  have hI := (ink2_at hrow0 hrow1 h.h1 h.h2).below k3
  have g11 : w3.cell? ⟨G, 11, none⟩ = some (.slice (some ⟨bw, 0, none⟩) (q.wh.length + 2) (q.wh.length + 2)) := cell_below k3 (h.g.cell 11)
  have h12 : w.cell? ⟨G, 12, none⟩ = some v := h.g.cell 12
  have h15 : w.cell? ⟨G, 15, none⟩ = some (.slice none 0 0) := h.g.cell 15
  have h14 : w.cell? ⟨G, 14, none⟩ = some (.slice (some ⟨bd, 0, none⟩) 2 2) := h.g.cell 14
  have hown := h.own
  have hal := h.al
  have d0 : w.cell? ⟨bd, 0, none⟩ = some (.slice (some ⟨s1, 0, none⟩) 1 1) := h.db.cell 0
  have d1 : w.cell? ⟨bd, 1, none⟩ = some (.slice (some ⟨s2, 0, none⟩) 1 1) := h.db.cell 1
  have e1 : w.cell? ⟨s1, 0, none⟩ = some (.slice (some ⟨i1, 0, none⟩) 1 1) := h.r1.cell 0
  have e2 : w.cell? ⟨s2, 0, none⟩ = some (.slice (some ⟨i2, 0, none⟩) 1 1) := h.r2.cell 0
  have yy1 := h.q1
  have yy2 := h.q2
  clear hrow0 hrow1 g10 g13 h hts
  have hrw : ((w2.alloc (.cells #[.bool false, .int .i64 77777, .int .i64 0, .bool false, .int .i64 0] 78)).alloc (.cells #[.bool false, .int .i64 77777, .int .i64 0, .bool false, .int .i64 0] 78)).alloc (.cells #[.slice (some ⟨w2.heap.size, 0, none⟩) 1 1, .slice (some ⟨w2.heap.size + 1, 0, none⟩) 1 1] 76) = w3 := hw3.symm
  rw [hrw]
  clear hrw hw3 o0 o1 o2
  generalize hn : q.wh.length = n at *
  have hwn : IntKind.i64.wrap (n : Int) = n := by rw [IntKind.wrap_i64]; omega
  have hnle : (n : Int) ≤ n + 2 := by omega
  refine wp_region_below (by kernel_rfl) (by kernel_rfl) ?_
  go_big_quiet_want
  refine ⟨.pointer (some ⟨G, 0, none⟩), fun x hx => ?_, ?_⟩
  · go_simp
  simp only [Act.put, List.setIfInBounds_toArray, List.set_cons_succ, List.set_cons_zero]
  go_big_quiet_on
  go_big_quiet_want
  refine ⟨.pointer (some ⟨G, 0, none⟩), fun x hx => ?_, ?_⟩
  · go_simp
  simp only [Act.put, List.setIfInBounds_toArray, List.set_cons_succ, List.set_cons_zero]
  go_big_quiet_on
  go_big_quiet_want
  refine ⟨.pointer (some ⟨G, 11, none⟩), fun x hx => ?_, ?_⟩
  · go_simp
  simp only [Act.put, List.setIfInBounds_toArray, List.set_cons_succ, List.set_cons_zero]
  go_big_quiet_on
  go_big_quiet_want
  refine ⟨.slice (some ⟨bw, 0, none⟩) (n + 2) (n + 2), fun x hx => ?_, ?_⟩
  · have e11 := cell_below hx g11
    go_simp
  simp only [Act.put, List.setIfInBounds_toArray, List.set_cons_succ, List.set_cons_zero]
  go_big_quiet_on
  go_big_quiet_want
  refine ⟨.pointer (some ⟨G, 0, none⟩), fun x hx => ?_, ?_⟩
  · go_simp
  simp only [Act.put, List.setIfInBounds_toArray, List.set_cons_succ, List.set_cons_zero]
  go_big_quiet_on
  go_big_quiet_want
  refine ⟨.pointer (some ⟨G, 0, none⟩), fun x hx => ?_, ?_⟩
  · go_simp
  simp only [Act.put, List.setIfInBounds_toArray, List.set_cons_succ, List.set_cons_zero]
  go_big_quiet_on
  go_big_quiet_want
  refine ⟨.pointer (some ⟨G, 11, none⟩), fun x hx => ?_, ?_⟩
  · go_simp
  simp only [Act.put, List.setIfInBounds_toArray, List.set_cons_succ, List.set_cons_zero]
  go_big_quiet_on
  go_big_quiet_want
  refine ⟨.slice (some ⟨bw, 0, none⟩) (n + 2) (n + 2), fun x hx => ?_, ?_⟩
  · have e11 := cell_below hx g11
    go_simp
  simp only [Act.put, List.setIfInBounds_toArray, List.set_cons_succ, List.set_cons_zero]
  go_big_quiet_on
  go_big_quiet_want
  refine ⟨.int .i64 ((n : Int) + 2), fun x hx => ?_, ?_⟩
  · go_simp
  simp only [Act.put, List.setIfInBounds_toArray, List.set_cons_succ, List.set_cons_zero]
  go_big_quiet_on
  go_big_quiet_want
  refine ⟨.int .i64 n, fun x hx => ?_, ?_⟩
  · go_simp
  simp only [Act.put, List.setIfInBounds_toArray, List.set_cons_succ, List.set_cons_zero]
  go_big_quiet_on
  go_big_quiet_want
  refine ⟨.slice (some ⟨bw, n, none⟩) 2 2, fun x hx => ?_, ?_⟩
  · go_simp
  simp only [Act.put, List.setIfInBounds_toArray, List.set_cons_succ, List.set_cons_zero]
  go_big_quiet_on
  go_big_quiet_want
  refine ⟨.slice (some ⟨w2.heap.size + 2, 0, none⟩) 2 2, fun x hx => ?_, ?_⟩
  · go_simp
  simp only [Act.put, List.setIfInBounds_toArray, List.set_cons_succ, List.set_cons_zero]
  go_big_quiet_on
  go_big_quiet_want
  refine ⟨.bool true, fun x hx => ?_, ?_⟩
  · have hC : Calls Tryz.prog 28 #[.slice (some ⟨bw, n, none⟩) 2 2, .slice (some ⟨w2.heap.size + 2, 0, none⟩) 2 2] x fun e w'' => e = .returned (.bool true) ∧ Below w3.heap.size w3 w'' := Calls.within hx (sameWhere_true (some ⟨bw, n, none⟩) (some ⟨w2.heap.size + 2, 0, none⟩) 2 2 [⟨some ⟨k1, 0, none⟩, 1, [inkC]⟩, ⟨some ⟨k2, 0, none⟩, 1, [inkC]⟩] [⟨some ⟨w2.heap.size, 0, none⟩, 1, [inkC]⟩, ⟨some ⟨w2.heap.size + 1, 0, none⟩, 1, [inkC]⟩] x (hI.below hx) (hO.below hx) rfl (ink_same _ _ _ _))
    go_simp
  simp only [Act.put, List.setIfInBounds_toArray, List.set_cons_succ, List.set_cons_zero]
  go_big_quiet_on
  go_big_quiet_want
  refine ⟨.bool true, fun x hx => ?_, ?_⟩
  · go_simp
  simp only [Act.put, List.setIfInBounds_toArray, List.set_cons_succ, List.set_cons_zero]
  go_big_quiet_on
  refine wpQuiet_nil ?_
  intro w4 hb4
  have k4 := Below.step k3 hb4
  clear hO hI g11 hb4 k3 hwn hnle
  obtain ⟨vo, vc, hv, hvc⟩ : ∃ vo vc, v = .slice vo n vc ∧ ∀ k, k < n → ∃ g, vo = some ⟨g, 0, none⟩ ∧ w.cell? ⟨g, k, none⟩ = some (.slice (some ⟨A k, 0, none⟩) ((q.wh.getD k lz).cs.length + 2) ((q.wh.getD k lz).cs.length + 2)) := by
    rcases hown.2 with ⟨rfl, hn0⟩ | ⟨g, cap, cur, rfl, _, hh, _, _, _, ht⟩
    · exact ⟨none, 0, by rw [hn0], fun k hk => absurd hk (by omega)⟩
    · refine ⟨_, _, rfl, fun k hk => ⟨g, rfl, ?_⟩⟩
      have h1 : (cur.toList.take (n * 1))[k]? = some (.slice (some ⟨A k, 0, none⟩) ((q.wh.getD k lz).cs.length + 2) ((q.wh.getD k lz).cs.length + 2)) := by
        rw [ht, List.getElem?_map, List.getElem?_range hk]
        rfl
      rw [List.getElem?_take_of_lt (by omega)] at h1
      simp only [World.cell?, hh]
      simpa using h1
  subst hv
  clear hown
  go_wp2
  go_loopw [8] (fun i wr => ∃ k : Nat, k ≤ n ∧ i = .int .i64 k ∧ Below w.heap.size w wr) (fun i _ => n - (intOf i).toNat)
  case atStart => exact ⟨0, Nat.zero_le _, rfl, k4⟩
  case round =>
    obtain ⟨k, hk, rfl, hbr⟩ := hrel
    have m12 := cell_below hbr h12
    by_cases hlt : k < n
    · obtain ⟨g, rfl, hgk⟩ := hvc k hlt
      have mgk := cell_below hbr hgk
      have hAk := hal k hlt
      have hlk := hcl k hlt
      generalize (q.wh.getD k lz).cs = cs at *
      have p0 : wr.cell? ⟨A k, cs.length * 5, none⟩ = some (.bool false) := cell_below hbr ((hAk.cell _).trans (con_ink0 cs 0 (by omega)))
      have p1 : wr.cell? ⟨A k, cs.length * 5 + 1, none⟩ = some (.int .i64 77777) := cell_below hbr ((hAk.cell _).trans (con_ink0 cs 1 (by omega)))
      have p2 : wr.cell? ⟨A k, cs.length * 5 + 2, none⟩ = some (.int .i64 0) := cell_below hbr ((hAk.cell _).trans (con_ink0 cs 2 (by omega)))
      have p3 : wr.cell? ⟨A k, cs.length * 5 + 3, none⟩ = some (.bool false) := cell_below hbr ((hAk.cell _).trans (con_ink0 cs 3 (by omega)))
      have p4 : wr.cell? ⟨A k, cs.length * 5 + 4, none⟩ = some (.int .i64 0) := cell_below hbr ((hAk.cell _).trans (con_ink0 cs 4 (by omega)))
      have r0 : wr.cell? ⟨A k, (cs.length + 1) * 5, none⟩ = some (.bool false) := cell_below hbr ((hAk.cell _).trans (con_ink1 cs 0 (by omega)))
      have r1 : wr.cell? ⟨A k, (cs.length + 1) * 5 + 1, none⟩ = some (.int .i64 77777) := cell_below hbr ((hAk.cell _).trans (con_ink1 cs 1 (by omega)))
      have r2 : wr.cell? ⟨A k, (cs.length + 1) * 5 + 2, none⟩ = some (.int .i64 0) := cell_below hbr ((hAk.cell _).trans (con_ink1 cs 2 (by omega)))
      have r3 : wr.cell? ⟨A k, (cs.length + 1) * 5 + 3, none⟩ = some (.bool false) := cell_below hbr ((hAk.cell _).trans (con_ink1 cs 3 (by omega)))
      have r4 : wr.cell? ⟨A k, (cs.length + 1) * 5 + 4, none⟩ = some (.int .i64 0) := cell_below hbr ((hAk.cell _).trans (con_ink1 cs 4 (by omega)))
      clear hAk hal hvc hcl
      go_wp2
      go_roundw
      case rel => exact ⟨k + 1, by omega, by go_num, hbr⟩
      case measure => simp [intOf]; omega
    · clear hal hvc hcl
      go_wp2
      go_loopw [10] (fun i wr2 => i = .int .i64 0 ∧ Below w.heap.size w wr2) (fun _ _ => 0)
      case atStart => exact ⟨rfl, hbr⟩
      case round =>
        obtain ⟨rfl, hbr2⟩ := hrel
        have m15 := cell_below hbr2 h15
        have m14 := cell_below hbr2 h14
        go_wp2
        go_loopw [14] (fun i wr3 => ∃ k : Nat, k ≤ 2 ∧ i = .int .i64 k ∧ Below w.heap.size w wr3) (fun i _ => 2 - (intOf i).toNat)
        case atStart => exact ⟨0, Nat.zero_le _, rfl, hbr2⟩
        case round =>
          obtain ⟨k, hk, rfl, hbr3⟩ := hrel
          clear m14 m15 m12
          have m14 := cell_below hbr3 h14
          have n0 := cell_below hbr3 d0
          have n1 := cell_below hbr3 d1
          have n2 := cell_below hbr3 e1
          have n3 := cell_below hbr3 e2
          have hC1 := inked_true i1 wr (yy1.of (hbr3.block _ yy1.lt))
          have hC2 := inked_true i2 wr (yy2.of (hbr3.block _ yy2.lt))
          by_cases hk2 : k < 2
          · rcases (by omega : k = 0 ∨ k = 1) with rfl | rfl
            · go_wp2_with fail
              refine hC1.mono ?_
              rintro e w9 ⟨rfl, rfl⟩
              go_wp2
              go_roundw
              case rel => exact ⟨1, by omega, rfl, hbr3⟩
              case measure => simp [intOf]
            · go_wp2_with fail
              refine hC2.mono ?_
              rintro e w9 ⟨rfl, rfl⟩
              go_wp2
              go_roundw
              case rel => exact ⟨2, by omega, rfl, hbr3⟩
              case measure => simp [intOf]
          · have hk3 : k = 2 := by omega
            subst hk3
            go_wp2
            go_ret
            exact ⟨rfl, hbr3⟩

end Go.Proofs.YtlpbelhfpoilpaaGreat

namespace Go.Proofs.YtlpbelhfpoilpaaGreat
open Go.RowKit Go.Scout

set_option maxRecDepth 20000 in
set_option maxHeartbeats 8000000 in
theorem behindD_true (w0 w : World) (G : Nat) (ts : List TableD) (q : QueryV) (db db' : List RowsV) (bc bf bk bu be bo bw bp bd : Nat) (v vr u1 u2 : Value) (A : Nat → Nat) (k1 k2 s1 s2 : Nat) (x1 x2 : Value)
    (h : GivD w0 w G 43 76 74 78 3 54 51 29 23 ts q db db' bc bf bk bu be bo bw bp bd v vr u1 u2 A k1 k2 s1 s2 x1 x2)
    (hdl : db.length ≤ 1152921504606846976) (hdr : ∀ i, i < db.length → (db.getD i rz).rs.length ≤ 1152921504606846976)
    (hts : ts.length ≤ 192153584101141162) (hwl : q.wh.length ≤ 1152921504606846976) (hcl : ∀ i, i < q.wh.length → (q.wh.getD i lz).cs.length ≤ 230584300921369395) :
    Calls Tryz.prog 31 #[.pointer (some ⟨G, 0, none⟩)] w fun e w' => e = .returned (.bool true) ∧ Below w.heap.size w w' := by
  have g10 : w.cell? ⟨G, 10, none⟩ = some (.slice (some ⟨bc, 0, none⟩) (ts.length + 2) (ts.length + 2)) := h.g.cell 10
  have g13 : w.cell? ⟨G, 13, none⟩ = some (.slice (some ⟨bp, 0, none⟩) 2 2) := h.g.cell 13
  have a0 : w.cell? ⟨bc, ts.length * 6, none⟩ = some (.int .i64 77777) := (h.cat.cell _).trans (tab_ink0 ts 0 (by omega))
  have a1 : w.cell? ⟨bc, ts.length * 6 + 1, none⟩ = some (.int .i64 0) := (h.cat.cell _).trans (tab_ink0 ts 1 (by omega))
  have a2 : w.cell? ⟨bc, ts.length * 6 + 2, none⟩ = some (.int .i64 0) := (h.cat.cell _).trans (tab_ink0 ts 2 (by omega))
  have a3 : w.cell? ⟨bc, ts.length * 6 + 3, none⟩ = some (.int .i64 0) := (h.cat.cell _).trans (tab_ink0 ts 3 (by omega))
  have a4 : w.cell? ⟨bc, ts.length * 6 + 4, none⟩ = some (.int .i64 0) := (h.cat.cell _).trans (tab_ink0 ts 4 (by omega))
  have a5 : w.cell? ⟨bc, ts.length * 6 + 5, none⟩ = some (.int .i64 0) := (h.cat.cell _).trans (tab_ink0 ts 5 (by omega))
  have b0 : w.cell? ⟨bc, (ts.length + 1) * 6, none⟩ = some (.int .i64 77777) := (h.cat.cell _).trans (tab_ink1 ts 0 (by omega))
  have b1 : w.cell? ⟨bc, (ts.length + 1) * 6 + 1, none⟩ = some (.int .i64 0) := (h.cat.cell _).trans (tab_ink1 ts 1 (by omega))
  have b2 : w.cell? ⟨bc, (ts.length + 1) * 6 + 2, none⟩ = some (.int .i64 0) := (h.cat.cell _).trans (tab_ink1 ts 2 (by omega))
  have b3 : w.cell? ⟨bc, (ts.length + 1) * 6 + 3, none⟩ = some (.int .i64 0) := (h.cat.cell _).trans (tab_ink1 ts 3 (by omega))
  have b4 : w.cell? ⟨bc, (ts.length + 1) * 6 + 4, none⟩ = some (.int .i64 0) := (h.cat.cell _).trans (tab_ink1 ts 4 (by omega))
  have b5 : w.cell? ⟨bc, (ts.length + 1) * 6 + 5, none⟩ = some (.int .i64 0) := (h.cat.cell _).trans (tab_ink1 ts 5 (by omega))
  have heq : ∀ (a b c e : Int) (x : World), (Op.equalIn 9999 52 (.agg #[.int .i64 a, .int .i64 b, .int .i64 c, .int .i64 e]) (.agg #[.int .i64 a, .int .i64 b, .int .i64 c, .int .i64 e])).run Tryz.prog x = .ok true x := fun a b c e x => eqArr4 9997 a b c e x
  go_enter Tryz.func31, Tryz.ntmps31
  go_wp2_with fail
  have hN1 : GB (w.alloc (.cells (nk ++ nk).toArray 51)) bp 51 (nk ++ nk).toArray := h.plan.of (heap_alloc h.plan.lt)
  have hN2 : GB (w.alloc (.cells (nk ++ nk).toArray 51)) w.heap.size 51 (nk ++ nk).toArray := heap_alloc_new _ _
  refine (samePlan_true (some ⟨bp, 0, none⟩) (some ⟨w.heap.size, 0, none⟩) 2 2 [inkN, inkN] [inkN, inkN] _ (nodes2_at hN1) (nodes2_at hN2) rfl (fun i hi => ⟨rfl, rfl, rfl, rfl, rfl, rfl, rfl⟩)).mono ?_
  rintro e w2 ⟨rfl, hb2⟩
  have k2' := Below.step (below_alloc _ _) hb2
  clear hN1 hN2 hb2 a0 a1 a2 a3 a4 a5 b0 b1 b2 b3 b4 b5 heq
  go_wp2_with fail
  have hw3 : ∃ w3, w3 = ((w2.alloc (.cells ic.toArray 78)).alloc (.cells ic.toArray 78)).alloc (.cells #[.slice (some ⟨w2.heap.size, 0, none⟩) 1 1, .slice (some ⟨w2.heap.size + 1, 0, none⟩) 1 1] 76) := ⟨_, rfl⟩
  obtain ⟨w3, hw3⟩ := hw3
  have k3 : Below w.heap.size w w3 := by rw [hw3]; exact Below.step k2' (Below.step (below_alloc _ _) (Below.step (below_alloc _ _) (below_alloc _ _)))
  have o0 : GB w3 w2.heap.size 78 ic.toArray := by
    show w3.heap[_]? = _
    rw [hw3, heap_alloc (by simp only [World.size_alloc]; omega), heap_alloc (by simp only [World.size_alloc]; omega), heap_alloc_new]
  have o1 : GB w3 (w2.heap.size + 1) 78 ic.toArray := by
    show w3.heap[_]? = _
    rw [hw3, heap_alloc (by simp only [World.size_alloc]; omega), show w2.heap.size + 1 = (w2.alloc (.cells ic.toArray 78)).heap.size by simp, heap_alloc_new]
  have o2 : GB w3 (w2.heap.size + 2) 76 #[.slice (some ⟨w2.heap.size, 0, none⟩) 1 1, .slice (some ⟨w2.heap.size + 1, 0, none⟩) 1 1] := by
    show w3.heap[_]? = _
    rw [hw3, show w2.heap.size + 2 = ((w2.alloc (.cells ic.toArray 78)).alloc (.cells ic.toArray 78)).heap.size by simp, heap_alloc_new]
  have hO := ink2_at (o2.cell 0) (o2.cell 1) o0 o1
  have hrow0 : w.cell? ⟨bw, q.wh.length, none⟩ = some (.slice (some ⟨k1, 0, none⟩) 1 1) := by rw [h.row.cell (by omega), if_neg (by omega), if_pos rfl]
  have hrow1 : w.cell? ⟨bw, q.wh.length + 1, none⟩ = some (.slice (some ⟨k2, 0, none⟩) 1 1) := by rw [h.row.cell (by omega), if_neg (by omega), if_neg (by omega)]
  have hI := (ink2_at hrow0 hrow1 h.h1 h.h2).below k3
  have g11 : w3.cell? ⟨G, 11, none⟩ = some (.slice (some ⟨bw, 0, none⟩) (q.wh.length + 2) (q.wh.length + 2)) := cell_below k3 (h.g.cell 11)
  have h12 : w.cell? ⟨G, 12, none⟩ = some v := h.g.cell 12
  have h15 : w.cell? ⟨G, 15, none⟩ = some vr := h.g.cell 15
  have h14 : w.cell? ⟨G, 14, none⟩ = some (.slice (some ⟨bd, 0, none⟩) (db.length + 2) (db.length + 2)) := h.g.cell 14
  have hown := h.own
  have hal := h.al
  have hlen' := h.len
  have d0 : w.cell? ⟨bd, db.length, none⟩ = some (.slice (some ⟨s1, 0, none⟩) 1 1) := by
    rw [h.drow.cell, List.getElem?_toArray, List.getElem?_append_right (by simp; omega), List.length_map, hlen', Nat.sub_self, h.e1]
    rfl
  have d1 : w.cell? ⟨bd, db.length + 1, none⟩ = some (.slice (some ⟨s2, 0, none⟩) 1 1) := by
    rw [h.drow.cell, List.getElem?_toArray, List.getElem?_append_right (by simp; omega), List.length_map, hlen', show db.length + 1 - db.length = 1 by omega, h.e2]
    rfl
  obtain ⟨i1, hx1, _, yy1⟩ := h.q1
  obtain ⟨i2, hx2, _, yy2⟩ := h.q2
  have e1 : w.cell? ⟨s1, 0, none⟩ = some (.slice (some ⟨i1, 0, none⟩) 1 1) := by rw [← hx1]; exact h.r1.cell 0
  have e2 : w.cell? ⟨s2, 0, none⟩ = some (.slice (some ⟨i2, 0, none⟩) 1 1) := by rw [← hx2]; exact h.r2.cell 0
  have HTA : Hid (∀ k, k < db.length → ∃ T j1 j2 m, (db'.getD k rz).full = .slice (some ⟨T, 0, none⟩) (m + 2) (m + 2) ∧ m ≤ 1152921504606846976 ∧ w.cell? ⟨T, m, none⟩ = some (.slice (some ⟨j1, 0, none⟩) 1 1) ∧ w.cell? ⟨T, m + 1, none⟩ = some (.slice (some ⟨j2, 0, none⟩) 1 1) ∧ GB w j1 3 #[.int .i64 77777] ∧ GB w j2 3 #[.int .i64 77777]) := fun k hk => by
    obtain ⟨T, a1, a2, ht⟩ := h.tab k (by omega)
    obtain ⟨j1, ha1, _, hj1⟩ := ht.k1
    obtain ⟨j2, ha2, _, hj2⟩ := ht.k2
    refine ⟨T, j1, j2, (db.getD k rz).rs.length, ?_, hdr k hk, ?_, ?_, hj1, hj2⟩
    · unfold RowsV.full
      rw [ht.ad, ht.len, ht.cap]
    · rw [ht.blk.cell, List.getElem?_toArray, List.getElem?_append_right (by rw [List.length_map, ht.len]; omega), List.length_map, ht.len, Nat.sub_self, ha1]
      rfl
    · rw [ht.blk.cell, List.getElem?_toArray, List.getElem?_append_right (by rw [List.length_map, ht.len]; omega), List.length_map, ht.len, show (db.getD k rz).rs.length + 1 - (db.getD k rz).rs.length = 1 by omega, ha2]
      rfl
  obtain ⟨ro, rc, hvr, hvc2⟩ : ∃ ro rc, vr = .slice ro db.length rc ∧ ∀ k, k < db.length → ∃ g, ro = some ⟨g, 0, none⟩ ∧ w.cell? ⟨g, k, none⟩ = some (db'.getD k rz).full := by
    rcases own_news h.down with ⟨h1, h2⟩ | ⟨g, c, h1, _, _, h4⟩
    · have : db' = [] := List.map_eq_nil_iff.1 h2
      rw [this] at hlen'
      exact ⟨none, 0, by rw [h1, ← hlen']; rfl, fun k hk => absurd hk (by rw [← hlen']; simp)⟩
    · refine ⟨some ⟨g, 0, none⟩, c, by rw [h1, hlen'], fun k hk => ⟨g, rfl, ?_⟩⟩
      have := h4 k (db'.getD k rz).full (by rw [List.getElem?_map]; have hk' : k < db'.length := by omega
                                            simp [List.getD, hk'])
      rw [addr_add, Nat.zero_add] at this
      exact this
  subst hvr
  have HVC2 : Hid _ := hvc2
  clear hvc2 hx1 hx2 hlen' hdr
  clear hrow0 hrow1 g10 g13 h hts
  have hrw : ((w2.alloc (.cells #[.bool false, .int .i64 77777, .int .i64 0, .bool false, .int .i64 0] 78)).alloc (.cells #[.bool false, .int .i64 77777, .int .i64 0, .bool false, .int .i64 0] 78)).alloc (.cells #[.slice (some ⟨w2.heap.size, 0, none⟩) 1 1, .slice (some ⟨w2.heap.size + 1, 0, none⟩) 1 1] 76) = w3 := hw3.symm
  rw [hrw]
  clear hrw hw3 o0 o1 o2
  generalize hn : q.wh.length = n at *
  have hwn : IntKind.i64.wrap (n : Int) = n := by rw [IntKind.wrap_i64]; omega
  have hnle : (n : Int) ≤ n + 2 := by omega
  refine wp_region_below (by kernel_rfl) (by kernel_rfl) ?_
  go_big_quiet_want
  refine ⟨.pointer (some ⟨G, 0, none⟩), fun x hx => ?_, ?_⟩
  · go_simp
  simp only [Act.put, List.setIfInBounds_toArray, List.set_cons_succ, List.set_cons_zero]
  go_big_quiet_on
  go_big_quiet_want
  refine ⟨.pointer (some ⟨G, 0, none⟩), fun x hx => ?_, ?_⟩
  · go_simp
  simp only [Act.put, List.setIfInBounds_toArray, List.set_cons_succ, List.set_cons_zero]
  go_big_quiet_on
  go_big_quiet_want
  refine ⟨.pointer (some ⟨G, 11, none⟩), fun x hx => ?_, ?_⟩
  · go_simp
  simp only [Act.put, List.setIfInBounds_toArray, List.set_cons_succ, List.set_cons_zero]
  go_big_quiet_on
  go_big_quiet_want
  refine ⟨.slice (some ⟨bw, 0, none⟩) (n + 2) (n + 2), fun x hx => ?_, ?_⟩
  · have e11 := cell_below hx g11
    go_simp
  simp only [Act.put, List.setIfInBounds_toArray, List.set_cons_succ, List.set_cons_zero]
  go_big_quiet_on
  go_big_quiet_want
  refine ⟨.pointer (some ⟨G, 0, none⟩), fun x hx => ?_, ?_⟩
  · go_simp
  simp only [Act.put, List.setIfInBounds_toArray, List.set_cons_succ, List.set_cons_zero]
  go_big_quiet_on
  go_big_quiet_want
  refine ⟨.pointer (some ⟨G, 0, none⟩), fun x hx => ?_, ?_⟩
  · go_simp
  simp only [Act.put, List.setIfInBounds_toArray, List.set_cons_succ, List.set_cons_zero]
  go_big_quiet_on
  go_big_quiet_want
  refine ⟨.pointer (some ⟨G, 11, none⟩), fun x hx => ?_, ?_⟩
  · go_simp
  simp only [Act.put, List.setIfInBounds_toArray, List.set_cons_succ, List.set_cons_zero]
  go_big_quiet_on
  go_big_quiet_want
  refine ⟨.slice (some ⟨bw, 0, none⟩) (n + 2) (n + 2), fun x hx => ?_, ?_⟩
  · have e11 := cell_below hx g11
    go_simp
  simp only [Act.put, List.setIfInBounds_toArray, List.set_cons_succ, List.set_cons_zero]
  go_big_quiet_on
  go_big_quiet_want
  refine ⟨.int .i64 ((n : Int) + 2), fun x hx => ?_, ?_⟩
  · go_simp
  simp only [Act.put, List.setIfInBounds_toArray, List.set_cons_succ, List.set_cons_zero]
  go_big_quiet_on
  go_big_quiet_want
  refine ⟨.int .i64 n, fun x hx => ?_, ?_⟩
  · go_simp
  simp only [Act.put, List.setIfInBounds_toArray, List.set_cons_succ, List.set_cons_zero]
  go_big_quiet_on
  go_big_quiet_want
  refine ⟨.slice (some ⟨bw, n, none⟩) 2 2, fun x hx => ?_, ?_⟩
  · go_simp
  simp only [Act.put, List.setIfInBounds_toArray, List.set_cons_succ, List.set_cons_zero]
  go_big_quiet_on
  go_big_quiet_want
  refine ⟨.slice (some ⟨w2.heap.size + 2, 0, none⟩) 2 2, fun x hx => ?_, ?_⟩
  · go_simp
  simp only [Act.put, List.setIfInBounds_toArray, List.set_cons_succ, List.set_cons_zero]
  go_big_quiet_on
  go_big_quiet_want
  refine ⟨.bool true, fun x hx => ?_, ?_⟩
  · have hC : Calls Tryz.prog 28 #[.slice (some ⟨bw, n, none⟩) 2 2, .slice (some ⟨w2.heap.size + 2, 0, none⟩) 2 2] x fun e w'' => e = .returned (.bool true) ∧ Below w3.heap.size w3 w'' := Calls.within hx (sameWhere_true (some ⟨bw, n, none⟩) (some ⟨w2.heap.size + 2, 0, none⟩) 2 2 [⟨some ⟨k1, 0, none⟩, 1, [inkC]⟩, ⟨some ⟨k2, 0, none⟩, 1, [inkC]⟩] [⟨some ⟨w2.heap.size, 0, none⟩, 1, [inkC]⟩, ⟨some ⟨w2.heap.size + 1, 0, none⟩, 1, [inkC]⟩] x (hI.below hx) (hO.below hx) rfl (ink_same _ _ _ _))
    go_simp
  simp only [Act.put, List.setIfInBounds_toArray, List.set_cons_succ, List.set_cons_zero]
  go_big_quiet_on
  go_big_quiet_want
  refine ⟨.bool true, fun x hx => ?_, ?_⟩
  · go_simp
  simp only [Act.put, List.setIfInBounds_toArray, List.set_cons_succ, List.set_cons_zero]
  go_big_quiet_on
  refine wpQuiet_nil ?_
  intro w4 hb4
  have k4 := Below.step k3 hb4
  clear hO hI g11 hb4 k3 hwn hnle
  obtain ⟨vo, vc, hv, hvc⟩ : ∃ vo vc, v = .slice vo n vc ∧ ∀ k, k < n → ∃ g, vo = some ⟨g, 0, none⟩ ∧ w.cell? ⟨g, k, none⟩ = some (.slice (some ⟨A k, 0, none⟩) ((q.wh.getD k lz).cs.length + 2) ((q.wh.getD k lz).cs.length + 2)) := by
    rcases hown.2 with ⟨rfl, hn0⟩ | ⟨g, cap, cur, rfl, _, hh, _, _, _, ht⟩
    · exact ⟨none, 0, by rw [hn0], fun k hk => absurd hk (by omega)⟩
    · refine ⟨_, _, rfl, fun k hk => ⟨g, rfl, ?_⟩⟩
      have h1 : (cur.toList.take (n * 1))[k]? = some (.slice (some ⟨A k, 0, none⟩) ((q.wh.getD k lz).cs.length + 2) ((q.wh.getD k lz).cs.length + 2)) := by
        rw [ht, List.getElem?_map, List.getElem?_range hk]
        rfl
      rw [List.getElem?_take_of_lt (by omega)] at h1
      simp only [World.cell?, hh]
      simpa using h1
  subst hv
  clear hown
  go_wp2
  go_loopw [8] (fun i wr => ∃ k : Nat, k ≤ n ∧ i = .int .i64 k ∧ Below w.heap.size w wr) (fun i _ => n - (intOf i).toNat)
  case atStart => exact ⟨0, Nat.zero_le _, rfl, k4⟩
  case round =>
    obtain ⟨k, hk, rfl, hbr⟩ := hrel
    have m12 := cell_below hbr h12
    by_cases hlt : k < n
    · obtain ⟨g, rfl, hgk⟩ := hvc k hlt
      have mgk := cell_below hbr hgk
      have hAk := hal k hlt
      have hlk := hcl k hlt
      generalize (q.wh.getD k lz).cs = cs at *
      have p0 : wr.cell? ⟨A k, cs.length * 5, none⟩ = some (.bool false) := cell_below hbr ((hAk.cell _).trans (con_ink0 cs 0 (by omega)))
      have p1 : wr.cell? ⟨A k, cs.length * 5 + 1, none⟩ = some (.int .i64 77777) := cell_below hbr ((hAk.cell _).trans (con_ink0 cs 1 (by omega)))
      have p2 : wr.cell? ⟨A k, cs.length * 5 + 2, none⟩ = some (.int .i64 0) := cell_below hbr ((hAk.cell _).trans (con_ink0 cs 2 (by omega)))
      have p3 : wr.cell? ⟨A k, cs.length * 5 + 3, none⟩ = some (.bool false) := cell_below hbr ((hAk.cell _).trans (con_ink0 cs 3 (by omega)))
      have p4 : wr.cell? ⟨A k, cs.length * 5 + 4, none⟩ = some (.int .i64 0) := cell_below hbr ((hAk.cell _).trans (con_ink0 cs 4 (by omega)))
      have r0 : wr.cell? ⟨A k, (cs.length + 1) * 5, none⟩ = some (.bool false) := cell_below hbr ((hAk.cell _).trans (con_ink1 cs 0 (by omega)))
      have r1 : wr.cell? ⟨A k, (cs.length + 1) * 5 + 1, none⟩ = some (.int .i64 77777) := cell_below hbr ((hAk.cell _).trans (con_ink1 cs 1 (by omega)))
      have r2 : wr.cell? ⟨A k, (cs.length + 1) * 5 + 2, none⟩ = some (.int .i64 0) := cell_below hbr ((hAk.cell _).trans (con_ink1 cs 2 (by omega)))
      have r3 : wr.cell? ⟨A k, (cs.length + 1) * 5 + 3, none⟩ = some (.bool false) := cell_below hbr ((hAk.cell _).trans (con_ink1 cs 3 (by omega)))
      have r4 : wr.cell? ⟨A k, (cs.length + 1) * 5 + 4, none⟩ = some (.int .i64 0) := cell_below hbr ((hAk.cell _).trans (con_ink1 cs 4 (by omega)))
      clear hAk hal hvc hcl
      go_wp2
      go_roundw
      case rel => exact ⟨k + 1, by omega, by go_num, hbr⟩
      case measure => simp [intOf]; omega
    · clear hal hvc hcl
      go_wp2
      go_loopw [10] (fun i wr2 => ∃ k : Nat, k ≤ db.length ∧ i = .int .i64 k ∧ Below w.heap.size w wr2) (fun i _ => db.length - (intOf i).toNat)
      case atStart => exact ⟨0, Nat.zero_le _, rfl, hbr⟩
      case round =>
        obtain ⟨k, hk, rfl, hbr2⟩ := hrel
        clear m12 hbr
        have m15 := cell_below hbr2 h15
        have m14 := cell_below hbr2 h14
        by_cases hlt2 : k < db.length
        · obtain ⟨g, rfl, hgk⟩ := HVC2.out k hlt2
          obtain ⟨T, j1, j2, m, hful, hm, hc1, hc2, hg1, hg2⟩ := HTA.out k hlt2
          rw [hful] at hgk
          have mgk := cell_below hbr2 hgk
          have mc1 := cell_below hbr2 hc1
          have mc2 := cell_below hbr2 hc2
          have hC1 := inked_true j1 wr (hg1.of (hbr2.block _ hg1.lt))
          have hC2 := inked_true j2 wr (hg2.of (hbr2.block _ hg2.lt))
          have wm1 : ((m + 2 : Nat) : Int) - 1 = ((m + 1 : Nat) : Int) := by omega
          have wm2 : ((m + 2 : Nat) : Int) - 2 = (m : Int) := by omega
          have wm3 : (m : Int) + 2 - 1 = (m : Int) + 1 := by omega
          have wm4 : (m : Int) + 2 - 2 = (m : Int) := by omega
          have wm5 : IntKind.i64.wrap ((m : Int) + 1) = (m : Int) + 1 := by rw [IntKind.wrap_i64]; omega
          have wm6 : IntKind.i64.wrap (m : Int) = (m : Int) := by rw [IntKind.wrap_i64]; omega
          have wm7 : ((m : Int) + 1).toNat = m + 1 := by omega
          clear hful hgk hc1 hc2 hg1 hg2
          go_wp2_with fail
          refine hC2.mono ?_
          rintro e w9 ⟨rfl, rfl⟩
          go_wp2_with fail
          refine hC1.mono ?_
          rintro e w9 ⟨rfl, rfl⟩
          go_wp2
          go_roundw
          case rel => exact ⟨k + 1, by omega, by go_num, hbr2⟩
          case measure => simp [intOf]; omega
        · have wd : ((db.length + 2 : Nat) : Int) - 2 = (db.length : Int) := by omega
          have wd2 : (db.length : Int) + 2 - 2 = (db.length : Int) := by omega
          have wd3 : IntKind.i64.wrap (db.length : Int) = (db.length : Int) := by rw [IntKind.wrap_i64]; omega
          go_wp2
          go_loopw [14] (fun i wr3 => ∃ k : Nat, k ≤ 2 ∧ i = .int .i64 ((db.length + k : Nat) : Int) ∧ Below w.heap.size w wr3) (fun i _ => db.length + 2 - (intOf i).toNat)
          case atStart => exact ⟨0, Nat.zero_le _, by first | rfl | simp, hbr2⟩
          case round =>
            clear m14 m15 hbr2
            obtain ⟨k, hk, rfl, hbr3⟩ := hrel
            have m14 := cell_below hbr3 h14
            have n0 := cell_below hbr3 d0
            have n1 := cell_below hbr3 d1
            have n2 := cell_below hbr3 e1
            have n3 := cell_below hbr3 e2
            have hC1 := inked_true i1 wr (yy1.of (hbr3.block _ yy1.lt))
            have hC2 := inked_true i2 wr (yy2.of (hbr3.block _ yy2.lt))
            by_cases hk2 : k < 2
            · rcases (by omega : k = 0 ∨ k = 1) with rfl | rfl
              · go_wp2_with fail
                refine hC1.mono ?_
                rintro e w9 ⟨rfl, rfl⟩
                go_wp2
                go_roundw
                case rel => exact ⟨1, by omega, by go_num, hbr3⟩
                case measure => first | (simp [intOf]; done) | (simp [intOf]; omega)
              · go_wp2_with fail
                refine hC2.mono ?_
                rintro e w9 ⟨rfl, rfl⟩
                go_wp2
                go_roundw
                case rel => exact ⟨2, by omega, by go_num, hbr3⟩
                case measure => first | (simp [intOf]; done) | (simp [intOf]; omega)
            · have hk3 : k = 2 := by omega
              subst hk3
              go_wp2
              go_ret
              exact ⟨rfl, hbr3⟩

end Go.Proofs.YtlpbelhfpoilpaaGreat

namespace Go.Proofs.YtlpbelhfpoilpaaGreat
open Go.RowKit Go.Scout

set_option maxRecDepth 20000 in
set_option maxHeartbeats 4000000 in
theorem sameRows_true (ao bo : Option Addr) (cap cap' : Nat) (rs ss : List IntsV) (w : World) (hx : RowsAt w ao rs) (hy : RowsAt w bo ss) (he : rs.length = ss.length) (hs : ∀ i, i < rs.length → (rs.getD i iz).xs = (ss.getD i iz).xs) :
    Calls Tryz.prog 10 #[.slice ao rs.length cap, .slice bo ss.length cap'] w fun e w' => e = .returned (.bool true) ∧ Below w.heap.size w w' := by
  have hl := hx.1
  rw [← he]
  have HE : Hid (rs.length = ss.length) := he
  clear he
  have hne : ((rs.length : Int) != rs.length) = false := by simp
  go_enter Tryz.func10, Tryz.ntmps10
  go_wp2
  go_loopw [5] (fun i wr => ∃ k : Nat, k ≤ rs.length ∧ i = .int .i64 k ∧ ∃ n, wr = w.drewN n) (fun i _ => rs.length - (intOf i).toNat)
  case atStart => exact ⟨0, Nat.zero_le _, rfl, 0, rfl⟩
  case round =>
    obtain ⟨k, hk, rfl, n, rfl⟩ := hrel
    by_cases hlt : k < rs.length
    · obtain ⟨b, off, rfl, hc⟩ := hx.2.1.get hlt
      obtain ⟨b', off', rfl, hc'⟩ := hy.2.1.get (show k < ss.length by have := HE.out; omega)
      have h1 := hc k hlt
      have h2 := hc' k (by have := HE.out; omega)
      have i1 := hx.2.2 k hlt
      have j1 := hy.2.2 k (by have := HE.out; omega)
      have hee := hs k hlt
      clear hc hc' hx hy hs
      generalize rs.getD k iz = x1 at *
      generalize ss.getD k iz = x2 at *
      obtain ⟨ad1, cp1, xs1⟩ := x1
      obtain ⟨ad3, cp3, xs3⟩ := x2
      simp only at hee
      subst hee
      unfold IntsV.At at i1 j1
      unfold IntsV.val at h1 h2
      simp only at h1 h2 i1 j1
      go_wp2
      refine wp_region_quiet_lit (by kernel_rfl) (by kernel_rfl) ?_
      repeat (go_big_quiet_step (fail))
      go_big_quiet_want
      refine ⟨.bool true, fun x hx => ?_, ?_⟩
      · obtain ⟨m, rfl⟩ := hx
        have hC := sameInts_drawn ad1 ad3 cp1 cp3 xs1 w n m i1 j1
        go_simp
      simp only [Act.put, List.setIfInBounds_toArray, List.set_cons_succ, List.set_cons_zero]
      go_big_quiet_on
      repeat (go_big_quiet_step (fail))
      refine wpQuiet_nil ?_
      intro x hx
      obtain ⟨m, rfl⟩ := hx
      rw [World.drewN_drewN]
      generalize n + m = n'
      go_wp2
      go_roundw
      case rel => exact ⟨k + 1, by omega, by go_num, _, rfl⟩
      case measure => simp [intOf]; omega
    · go_wp2
      go_ret
      exact ⟨rfl, below_drewN (Below.refl _ _) _⟩

end Go.Proofs.YtlpbelhfpoilpaaGreat

