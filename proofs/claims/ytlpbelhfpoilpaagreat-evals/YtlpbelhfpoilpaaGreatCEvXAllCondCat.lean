import Derived.Test.YtlpbelhfpoilpaaGreatProg
import Derived.Deep.QuietTactic
import Derived.BigQuiet
import Derived.Test.YtlpbelhfpoilpaaGreatCRLawBaseBase2Base3
import Derived.Test.YtlpbelhfpoilpaaGreatCMkCMkDGrNSoO
import Derived.Test.YtlpbelhfpoilpaaGreatCNwANwBNwCNwD
import Derived.Test.YtlpbelhfpoilpaaGreatCDatAPure2EvPGrO
set_option linter.all false
namespace Go.Scout
open Go.RowKit

/-- The rows that come out, ahead of their order. -/
def outRows (q : QueryV) (rows : List (List Int)) : List (List Int) := if q.group = true then (groupsN q.keys.xs q.sums.xs rows).map Gr.row else rows.map fun r => pickN r q.sel.xs
/-- The answer of a query that is one, on a database that is one. -/
def answerN (q : QueryV) (db : List RowsV) : List (List Int) := sortN q.ord.xs (outRows q ((combosN q.src.xs db).filter (holdsB q.wh)))
def evalE (ts : List TableD) (q : QueryV) (db : List RowsV) : Int := if q.check ts = 0 then (if dataB ts q.src.xs db = true then 0 else 4) else q.check ts
def evalR (ts : List TableD) (q : QueryV) (db : List RowsV) : List (List Int) := if evalE ts q db = 0 then answerN q db else []

theorem check_pos (q : QueryV) (ts : List TableD) : q.check ts = 0 ∨ q.check ts = 1 ∨ q.check ts = 2 ∨ q.check ts = 3 := by
  unfold QueryV.check checkN
  repeat' split
  all_goals simp

theorem stepG_lens {kc sc : List Int} {a : List Gr} {row : List Int} (h : ∀ g ∈ a, g.key.length = kc.length ∧ g.ss.length = sc.length) : ∀ g ∈ stepG kc sc a row, g.key.length = kc.length ∧ g.ss.length = sc.length := by
  intro g hg
  unfold stepG at hg
  split at hg
  · obtain ⟨j, hj, rfl⟩ := List.getElem_of_mem hg
    rw [List.length_modify] at hj
    rw [List.getElem_modify]
    have h1 := h _ (List.getElem_mem hj)
    split
    · exact ⟨h1.1, by show (addsN a[j].ss row sc).length = _; rw [addsN_len]; exact h1.2⟩
    · exact h1
  · rcases List.mem_append.1 hg with hg | hg
    · exact h g hg
    · rw [List.mem_singleton] at hg
      subst hg
      exact ⟨by simp [addG, newG, pickN], by simp [addG, newG, addsN_len]⟩

theorem foldG_lens {kc sc : List Int} : ∀ (rows : List (List Int)) (a : List Gr), (∀ g ∈ a, g.key.length = kc.length ∧ g.ss.length = sc.length) → ∀ g ∈ rows.foldl (stepG kc sc) a, g.key.length = kc.length ∧ g.ss.length = sc.length
  | [], a, h => by simpa using h
  | r :: l, a, h => by
    rw [List.foldl_cons]
    exact foldG_lens l _ (stepG_lens h)

theorem groupsN_lens {kc sc : List Int} {rows : List (List Int)} : ∀ g ∈ groupsN kc sc rows, g.row.length = kc.length + 1 + sc.length := by
  intro g hg
  unfold groupsN at hg
  have := foldG_lens rows (startG kc sc) (fun g hg => by
    unfold startG at hg
    split at hg
    · rename_i hk
      rw [List.mem_singleton] at hg
      subst hg
      exact ⟨by rw [hk]; rfl, by simp [newG]⟩
    · simp at hg) g hg
  unfold Gr.row
  rw [List.length_append, List.length_append, this.1, this.2]
  rfl

theorem outRows_lens (q : QueryV) (rows : List (List Int)) : ∀ r ∈ outRows q rows, (r.length : Int) = outN q.group q.keys.xs q.sums.xs q.sel.xs := by
  intro r hr
  unfold outRows at hr
  unfold outN
  split at hr
  · rename_i hg
    rw [if_pos hg]
    obtain ⟨g, hg, rfl⟩ := List.mem_map.1 hr
    rw [groupsN_lens g hg]
    omega
  · rename_i hg
    rw [if_neg hg]
    obtain ⟨x, _, rfl⟩ := List.mem_map.1 hr
    simp [pickN]

theorem outRows_len (q : QueryV) (rows : List (List Int)) : (outRows q rows).length ≤ 1 + rows.length := by
  unfold outRows
  split
  · rw [List.length_map]; exact groupsN_len _ _ _
  · rw [List.length_map]; omega

end Go.Scout
namespace Go.Proofs.YtlpbelhfpoilpaaGreat
open Go.RowKit Go.Scout Go.Shelf

set_option maxRecDepth 20000 in
set_option maxHeartbeats 8000000 in
/-- scout.Eval of a query that is one, on a database that is one. -/
theorem evalX_any (co d : Option Addr) (cc dcap : Nat) (ts : List TableD) (q : QueryV) (db : List RowsV) (w : World) (hts : TablesAt w co ts) (hq : q.At w) (hkc : q.keys.xs.length ≤ q.keys.cap) (hoc : q.ord.xs.length ≤ q.ord.cap) (hsc : q.src.xs.length ≤ q.src.cap) (hdb : DbHad w d db)
    (hchk : q.check ts = 0) (hdat : dataB ts q.src.xs db = true) :
    Calls Tryz.prog 7 #[.slice co ts.length cc, .agg q.cells, .slice d db.length dcap] w fun e w' => ∃ (v : Value) (ys : List IntsV) (o : Nat → Prop) (w1 : World), e = .returned (.tuple #[v, .int .i64 0]) ∧ ys.map IntsV.xs = answerN q db ∧
      Gathered (newEl 3 w1.heap.size) w1.heap.size w1 23 ys o w' v ∧ Below w.heap.size w w1 := by
  obtain ⟨p1, p2, p3, p4, p5, p6⟩ := check_parts hchk
  have hf := full_parts p2
  have hdd : (db.length = ts.length ∧ dbB ts db = true) ∧ prodN q.src.xs db ≤ 20000 := by
    unfold dataB at hdat
    simp only [Bool.and_eq_true, decide_eq_true_eq] at hdat
    exact hdat
  have hcl := combos_len (src := q.src.xs) hdd.1.2
  have hcc := combos_count q.src.xs db
  have hall : allB q.sel.xs (widthN ts q.src.xs) = true ∧ allB q.keys.xs (widthN ts q.src.xs) = true ∧ allB q.sums.xs (widthN ts q.src.xs) = true ∧ allB q.ord.xs (outN q.group q.keys.xs q.sums.xs q.sel.xs) = true := by
    unfold restB at p6
    simp only [Bool.and_eq_true] at p6
    exact ⟨p6.1.1.1.1.1.1.1, p6.1.1.1.1.1.1.2, p6.1.1.1.1.1.2, p6.1.1.1.1.2⟩
  have hsmall : ∀ r ∈ combosN q.src.xs db, ∀ v ∈ r, smallI v := combos_small hdd.1.2 q.src.xs
  have hrow : ∀ t, ∀ r ∈ tabN db t, r.length ≤ 100 := fun t r hr => by
    obtain ⟨h1, h2⟩ := tabN_fit hdd.1.2 t r hr
    have := (cols_of p1 (i := t.toNat) (by omega)).2
    omega
  have hlen : ∀ t, (tabN db t).length ≤ 1000000 := fun t => by
    rw [tabN_len]
    have := dbB_len hdd.1.2 t.toNat
    omega
  have hfl : ((combosN q.src.xs db).filter (holdsB q.wh)).length ≤ 20000 := by
    have := List.length_filter_le (holdsB q.wh) (combosN q.src.xs db)
    have := hdd.2
    omega
  have hrl : (outRows q ((combosN q.src.xs db).filter (holdsB q.wh))).length ≤ 1000000 := by
    have := outRows_len q ((combosN q.src.xs db).filter (holdsB q.wh))
    omega
  have hfm : ∀ r ∈ (combosN q.src.xs db).filter (holdsB q.wh), r ∈ combosN q.src.xs db := fun r hr => (List.mem_filter.1 hr).1
  have hb0 := below_alloc w (.cells q.cells 26)
  have hc1 := checkQ_any co cc ts q _ (hts.below hb0) (hq.below hb0) hkc hoc
  rw [hchk] at hc1
  obtain ⟨w0, hw0⟩ : ∃ w0, w.alloc (.cells q.cells 26) = w0 := ⟨_, rfl⟩
  have HX : Hid (w0.cell? ⟨w.heap.size, 0, none⟩ = some q.src.val ∧ w0.cell? ⟨w.heap.size, 1, none⟩ = some (.slice q.wad q.wh.length q.wcap) ∧ w0.cell? ⟨w.heap.size, 2, none⟩ = some (.bool q.group) ∧ w0.cell? ⟨w.heap.size, 3, none⟩ = some q.keys.val ∧ w0.cell? ⟨w.heap.size, 4, none⟩ = some q.sums.val ∧ w0.cell? ⟨w.heap.size, 5, none⟩ = some q.sel.val ∧ w0.cell? ⟨w.heap.size, 6, none⟩ = some q.ord.val) := by
    rw [← hw0]; unfold QueryV.cells; refine ⟨?_, ?_, ?_, ?_, ?_, ?_, ?_⟩ <;> simp
  rw [hw0] at hc1 hb0
  have hcd := fun (x : World) (hb : Below w.heap.size w x) => checkData_any co cc ts q d dcap db x (hts.below hb) (IntsAt.below hb hq.src) (hdb.1.below hb) p3 hf.1
  rw [if_pos hdat] at hcd
  have han := fun (x : World) (hb : Below w.heap.size w x) => answerF_any q d dcap db (outRows q ((combosN q.src.xs db).filter (holdsB q.wh))) x (hq.below hb) (hdb.below hb) p4 hf.1 hsc (by rw [hdd.1.1]; exact p3) hrow hlen (fun r hr i hi k hk => by rw [hcl r hr]; exact clause_conds p5 hi hk)
    (fun vf W hW hv => by
      unfold outRows
      by_cases hg : q.group = true
      · rw [if_pos hg]
        exact outputGN_any vf q _ W hg hv (IntsAt.below (hb.trans (hW.mono hb.size)) hq.keys) (IntsAt.below (hb.trans (hW.mono hb.size)) hq.sums) hf.2.2.2.1 hf.2.2.2.2.1 (by omega) (fun r hr => by rw [hcl r (hfm r hr)]; exact hall.2.1) (fun r hr => by rw [hcl r (hfm r hr)]; exact hall.2.2.1) (fun r hr => hsmall r (hfm r hr))
      · rw [if_neg hg]
        exact outputPN_any vf q _ W (by simpa using hg) hv (IntsAt.below (hb.trans (hW.mono hb.size)) hq.sel) (by have := hf.2.2.1; omega) (fun r hr => by rw [hcl r (hfm r hr)]; exact hall.1))
    hrl (fun r hr => by rw [outRows_lens q _ r hr]; exact hall.2.2.2)
  have HRL : Hid ((answerN q db).length ≤ 1000000) := by
    show (answerN q db).length ≤ 1000000
    unfold answerN
    rw [sortN_len]
    exact hrl
  have HAN : Hid (∀ x, Below w.heap.size w x → Calls Tryz.prog 19 #[.agg q.cells, .slice d db.length dcap] x fun e w' => ∃ v, e = .returned v ∧ SeqF Tryz.prog 3 v (answerN q db) w' ∧ Below x.heap.size x w') := han
  have HCD : Hid _ := hcd
  have HB0 : Hid _ := hb0
  have HW0 : Hid _ := hw0
  clear hcd han hrl hb0 hw0 hts hq hkc hoc hsc hdb hchk hdat p1 p2 p3 p4 p5 p6 hf hdd hcl hcc hall hsmall hrow hlen hfm hfl
  generalize answerN q db = rows at *
  obtain ⟨⟨sad, scap, sxs⟩, wad, wcap, wh, group, keys, sums, ⟨lad, lcap, lxs⟩, ⟨oad, ocap, oxs⟩⟩ := q
  unfold QueryV.cells IntsV.val at *
  simp only at *
  obtain ⟨c0, c1, c2, c3, c4, c5, c6⟩ := HX.out
  go_enter Tryz.func7, Tryz.ntmps7
  go_wp2_with fail
  rw [HW0.out]
  refine hc1.mono ?_
  rintro e w1 ⟨rfl, hb1⟩
  have hbw1 : Below w.heap.size w w1 := HB0.out.trans (hb1.mono HB0.out.size)
  have d0 := cell_below hb1 c0
  have d1 := cell_below hb1 c1
  have d2 := cell_below hb1 c2
  have d3 := cell_below hb1 c3
  have d4 := cell_below hb1 c4
  have d5 := cell_below hb1 c5
  have d6 := cell_below hb1 c6
  have hcd := HCD.out w1 hbw1
  clear hc1 c0 c1 c2 c3 c4 c5 c6
  go_wp2_with fail
  refine Calls.mono hcd ?_
  rintro e w2 ⟨rfl, hb2⟩
  have hbw2 : Below w.heap.size w w2 := hbw1.trans (hb2.mono hbw1.size)
  have e0 := cell_below hb2 d0
  have e1 := cell_below hb2 d1
  have e2 := cell_below hb2 d2
  have e3 := cell_below hb2 d3
  have e4 := cell_below hb2 d4
  have e5 := cell_below hb2 d5
  have e6 := cell_below hb2 d6
  have han := HAN.out w2 hbw2
  clear hcd d0 d1 d2 d3 d4 d5 d6
  go_wp2_with fail
  refine Calls.mono han ?_
  rintro e w3 ⟨v, rfl, hsv, hb3⟩
  have hbw3 : Below w.heap.size w w3 := hbw2.trans (hb3.mono hbw2.size)
  obtain ⟨g3, lb3, rfl, eg3, hs3⟩ := hsv
  have hga := gather_any (newEl 3 w3.heap.size) (fun _ => rfl) g3 lb3 rows w3 w3 (Below.refl _ _) HRL.out hs3 eg3
  clear han e0 e1 e2 e3 e4 e5 e6 hs3 eg3
  go_wp2_with fail
  refine hga.mono ?_
  rintro e w4 ⟨v4, ys, o4, rfl, hys, hG4⟩
  obtain ⟨va, vn, vc, rfl⟩ := ownsRow_slice hG4.own
  clear hga
  go_wp2
  go_ret2
  exact ⟨_, ys, o4, w3, rfl, hys, hG4, hbw3⟩

set_option maxRecDepth 20000 in
set_option maxHeartbeats 8000000 in
/-- scout.Eval of what is no query. -/
theorem evalC_any (co d : Option Addr) (cc dcap n : Nat) (ts : List TableD) (q : QueryV) (w : World) (hts : TablesAt w co ts) (hq : q.At w) (hkc : q.keys.xs.length ≤ q.keys.cap) (hoc : q.ord.xs.length ≤ q.ord.cap) (hchk : ¬ q.check ts = 0) :
    Calls Tryz.prog 7 #[.slice co ts.length cc, .agg q.cells, .slice d n dcap] w fun e w' => e = .returned (.tuple #[.slice none 0 0, .int .i64 (q.check ts)]) ∧ Below w.heap.size w w' := by
  have hb0 := below_alloc w (.cells q.cells 26)
  have hc1 := checkQ_any co cc ts q _ (hts.below hb0) (hq.below hb0) hkc hoc
  have hne : (q.check ts != 0) = true := by simpa using hchk
  obtain ⟨w0, hw0⟩ : ∃ w0, w.alloc (.cells q.cells 26) = w0 := ⟨_, rfl⟩
  have HX : Hid (w0.cell? ⟨w.heap.size, 0, none⟩ = some q.src.val ∧ w0.cell? ⟨w.heap.size, 1, none⟩ = some (.slice q.wad q.wh.length q.wcap) ∧ w0.cell? ⟨w.heap.size, 2, none⟩ = some (.bool q.group) ∧ w0.cell? ⟨w.heap.size, 3, none⟩ = some q.keys.val ∧ w0.cell? ⟨w.heap.size, 4, none⟩ = some q.sums.val ∧ w0.cell? ⟨w.heap.size, 5, none⟩ = some q.sel.val ∧ w0.cell? ⟨w.heap.size, 6, none⟩ = some q.ord.val) := by
    rw [← hw0]; unfold QueryV.cells; refine ⟨?_, ?_, ?_, ?_, ?_, ?_, ?_⟩ <;> simp
  rw [hw0] at hc1 hb0
  have HB0 : Hid _ := hb0
  have HW0 : Hid _ := hw0
  clear hb0 hw0 hts hq hkc hoc hchk
  generalize q.check ts = ec at *
  obtain ⟨⟨sad, scap, sxs⟩, wad, wcap, wh, group, keys, sums, ⟨lad, lcap, lxs⟩, ⟨oad, ocap, oxs⟩⟩ := q
  unfold QueryV.cells IntsV.val at *
  simp only at *
  obtain ⟨c0, c1, c2, c3, c4, c5, c6⟩ := HX.out
  go_enter Tryz.func7, Tryz.ntmps7
  go_wp2_with fail
  rw [HW0.out]
  refine hc1.mono ?_
  rintro e w1 ⟨rfl, hb1⟩
  clear hc1 c0 c1 c2 c3 c4 c5 c6
  go_wp2
  go_ret2
  exact ⟨rfl, HB0.out.trans (hb1.mono HB0.out.size)⟩

set_option maxRecDepth 20000 in
set_option maxHeartbeats 8000000 in
/-- scout.Eval on what is no database. -/
theorem evalD_any (co d : Option Addr) (cc dcap : Nat) (ts : List TableD) (q : QueryV) (db : List RowsV) (w : World) (hts : TablesAt w co ts) (hq : q.At w) (hkc : q.keys.xs.length ≤ q.keys.cap) (hoc : q.ord.xs.length ≤ q.ord.cap) (hdb : DbAt w d db)
    (hchk : q.check ts = 0) (hdat : ¬ dataB ts q.src.xs db = true) :
    Calls Tryz.prog 7 #[.slice co ts.length cc, .agg q.cells, .slice d db.length dcap] w fun e w' => e = .returned (.tuple #[.slice none 0 0, .int .i64 4]) ∧ Below w.heap.size w w' := by
  obtain ⟨p1, p2, p3, p4, p5, p6⟩ := check_parts hchk
  have hf := full_parts p2
  have hb0 := below_alloc w (.cells q.cells 26)
  have hc1 := checkQ_any co cc ts q _ (hts.below hb0) (hq.below hb0) hkc hoc
  rw [hchk] at hc1
  obtain ⟨w0, hw0⟩ : ∃ w0, w.alloc (.cells q.cells 26) = w0 := ⟨_, rfl⟩
  have HX : Hid (w0.cell? ⟨w.heap.size, 0, none⟩ = some q.src.val ∧ w0.cell? ⟨w.heap.size, 1, none⟩ = some (.slice q.wad q.wh.length q.wcap) ∧ w0.cell? ⟨w.heap.size, 2, none⟩ = some (.bool q.group) ∧ w0.cell? ⟨w.heap.size, 3, none⟩ = some q.keys.val ∧ w0.cell? ⟨w.heap.size, 4, none⟩ = some q.sums.val ∧ w0.cell? ⟨w.heap.size, 5, none⟩ = some q.sel.val ∧ w0.cell? ⟨w.heap.size, 6, none⟩ = some q.ord.val) := by
    rw [← hw0]; unfold QueryV.cells; refine ⟨?_, ?_, ?_, ?_, ?_, ?_, ?_⟩ <;> simp
  rw [hw0] at hc1 hb0
  have hcd := fun (x : World) (hb : Below w.heap.size w x) => checkData_any co cc ts q d dcap db x (hts.below hb) (IntsAt.below hb hq.src) (hdb.below hb) p3 hf.1
  rw [if_neg hdat] at hcd
  have HCD : Hid _ := hcd
  have HB0 : Hid _ := hb0
  have HW0 : Hid _ := hw0
  clear hcd hb0 hw0 hts hq hkc hoc hdb hchk hdat p1 p2 p3 p4 p5 p6 hf
  obtain ⟨⟨sad, scap, sxs⟩, wad, wcap, wh, group, keys, sums, ⟨lad, lcap, lxs⟩, ⟨oad, ocap, oxs⟩⟩ := q
  unfold QueryV.cells IntsV.val at *
  simp only at *
  obtain ⟨c0, c1, c2, c3, c4, c5, c6⟩ := HX.out
  go_enter Tryz.func7, Tryz.ntmps7
  go_wp2_with fail
  rw [HW0.out]
  refine hc1.mono ?_
  rintro e w1 ⟨rfl, hb1⟩
  have hbw1 : Below w.heap.size w w1 := HB0.out.trans (hb1.mono HB0.out.size)
  have d0 := cell_below hb1 c0
  have d1 := cell_below hb1 c1
  have d2 := cell_below hb1 c2
  have d3 := cell_below hb1 c3
  have d4 := cell_below hb1 c4
  have d5 := cell_below hb1 c5
  have d6 := cell_below hb1 c6
  have hcd := HCD.out w1 hbw1
  clear hc1 c0 c1 c2 c3 c4 c5 c6
  go_wp2_with fail
  refine Calls.mono hcd ?_
  rintro e w2 ⟨rfl, hb2⟩
  have hbw2 : Below w.heap.size w w2 := hbw1.trans (hb2.mono hbw1.size)
  clear hcd d0 d1 d2 d3 d4 d5 d6
  go_wp2
  go_ret2
  exact ⟨rfl, hbw2⟩

end Go.Proofs.YtlpbelhfpoilpaaGreat

namespace Go.Proofs.YtlpbelhfpoilpaaGreat
open Go.RowKit Go.Scout

theorem all_any (ao : Option Addr) (cap : Nat) (xs : List Int) (n : Int) (w : World) (hx : IntsAt w ao xs) :
    Calls Tryz.prog 46 #[.slice ao xs.length cap, .int .i64 n] w fun e w' => e = .returned (.bool (allB xs n)) ∧ w' = w := by
  have hl := hx.1
  go_enter Tryz.func46, Tryz.ntmps46
  go_wp2
  go_loop [5] (fun i => ∃ k : Nat, k ≤ xs.length ∧ i = .int .i64 k ∧ Hid (allB (xs.take k) n = true)) (fun i => xs.length - (intOf i).toNat)
  case atStart => exact ⟨0, Nat.zero_le _, rfl, rfl⟩
  case round =>
    obtain ⟨k, hk, rfl, HP⟩ := hrel
    by_cases hlt : k < xs.length
    · obtain ⟨b, off, rfl, hc⟩ := hx.get hlt
      have hck := hc k hlt
      clear hc hx
      by_cases h1 : xs[k] < 0
      · go_wp2
        go_ret
        exact ⟨ret_bool (allB_bad xs n k hlt (by omega)).symm, rfl⟩
      · by_cases h2 : xs[k] < n
        · go_wp2
          go_round
          case rel => exact ⟨k + 1, by omega, by go_num, allB_step hlt HP.out h1 h2⟩
          case measure => simp [intOf]; omega
        · go_wp2
          go_ret
          exact ⟨ret_bool (allB_bad xs n k hlt (by omega)).symm, rfl⟩
    · go_wp2
      go_ret
      exact ⟨ret_bool (allB_whole hk hlt HP.out), rfl⟩

theorem apart_any (ao : Option Addr) (cap : Nat) (xs : List Int) (w : World) (hx : IntsAt w ao xs) :
    Calls Tryz.prog 50 #[.slice ao xs.length cap] w fun e w' => e = .returned (.bool (apartB xs)) ∧ ∃ n, w' = w.drewN n := by
  have hl := hx.1
  go_enter Tryz.func50, Tryz.ntmps50
  go_wp2
  go_loopw [3] (fun i wr => ∃ k : Nat, k ≤ xs.length ∧ i = .int .i64 k ∧ Hid (∀ i, i < k → ∀ j, j < i → xs.getD i 0 ≠ xs.getD j 0) ∧ ∃ n, wr = w.drewN n) (fun i _ => xs.length - (intOf i).toNat)
  case atStart => exact ⟨0, Nat.zero_le _, rfl, fun i hi => absurd hi (by omega), 0, rfl⟩
  case round =>
    obtain ⟨k, hk, rfl, HP, n, rfl⟩ := hrel
    by_cases hlt : k < xs.length
    · obtain ⟨b, off, rfl, hc⟩ := hx.get hlt
      have hck := hc k hlt
      have HC : Hid (∀ j, j < xs.length → w.cell? ⟨b, off + j, none⟩ = some (.int .i64 (xs.getD j 0))) := hc
      clear hc hx
      go_wp2
      go_loopw [4] (fun i wr => ∃ m : Nat, m ≤ k ∧ i = .int .i64 m ∧ Hid (∀ j, j < m → xs.getD k 0 ≠ xs.getD j 0) ∧ ∃ n, wr = w.drewN n) (fun i _ => k - (intOf i).toNat)
      case atStart => exact ⟨0, Nat.zero_le _, rfl, fun j hj => absurd hj (by omega), n, rfl⟩
      case round =>
        obtain ⟨m, hm, rfl, HM, n', rfl⟩ := hrel
        by_cases hml : m < k
        · have hmm : m < xs.length := by omega
          have hcm := HC.out m hmm
          by_cases he : xs[k] = xs[m]
          · have he' : (xs[k] == xs[m]) = true := by simpa using he
            have HE : Hid (xs[k] = xs[m]) := he
            clear he
            go_wp2
            go_quiet (fail)
            go_wp2
            go_ret
            exact ⟨ret_bool (apartB_bad hlt hml (by simpa [hlt, hmm] using HE.out)), _, World.drewN_drewN _ _ _⟩
          · have he' : (xs[k] == xs[m]) = false := by simpa using he
            have HE : Hid (¬ xs[k] = xs[m]) := he
            clear he
            go_wp2
            go_quiet (fail)
            go_wp2
            go_roundw
            case rel =>
              refine ⟨m + 1, by omega, by go_num, fun j hj => ?_, _, rfl⟩
              by_cases hjm : j = m
              · subst hjm; simpa [hlt, hmm] using HE.out
              · exact HM.out j (by omega)
            case measure => simp [intOf]; omega
        · go_wp2
          go_roundw
          case rel =>
            refine ⟨k + 1, by omega, by go_num, fun i hi => ?_, _, rfl⟩
            by_cases hik : i = k
            · subst hik; exact fun j hj => HM.out j (by omega)
            · exact HP.out i (by omega)
          case measure => simp [intOf]; omega
    · go_wp2
      go_ret
      have hkk : k = xs.length := by omega
      subst hkk
      exact ⟨ret_bool (apartB_good HP.out), _, rfl⟩

theorem from_any (lo v hi : Int) (w : World) :
    Calls Tryz.prog 75 #[.int .i64 lo, .int .i64 v, .int .i64 hi] w fun e w' => e = .returned (.bool (decide (lo ≤ v) && decide (v ≤ hi))) ∧ w' = w := by
  by_cases h1 : lo ≤ v
  · by_cases h2 : v ≤ hi
    · go_enter Tryz.func75, Tryz.ntmps75
      go_wp2
      go_ret
      exact ⟨ret_bool (by simp; omega), rfl⟩
    · go_enter Tryz.func75, Tryz.ntmps75
      go_wp2
      go_ret
      exact ⟨ret_bool (by simp; omega), rfl⟩
  · go_enter Tryz.func75, Tryz.ntmps75
    go_wp2
    go_ret
    exact ⟨ret_bool (by simp; omega), rfl⟩

end Go.Proofs.YtlpbelhfpoilpaaGreat

namespace Go.Proofs.YtlpbelhfpoilpaaGreat
open Go.RowKit Go.Scout

theorem condB_bad {c : CondD} {n : Int} (h : c.left < 0 ∨ n ≤ c.left ∨ c.op < 0 ∨ 2 < c.op) : false = condB c n := by
  unfold condB
  symm
  rw [Bool.and_eq_false_iff]
  left
  simp
  omega

theorem condB_nil {c : CondD} {n : Int} (h : ¬ (c.left < 0 ∨ n ≤ c.left ∨ c.op < 0 ∨ 2 < c.op)) (h2 : c.op = 2) : (!c.const && decide (c.right = 0)) = condB c n := by
  unfold condB
  rw [if_pos h2]
  have : (decide (0 ≤ c.left) && decide (c.left < n) && decide (0 ≤ c.op) && decide (c.op ≤ 2)) = true := by simp; omega
  rw [this, Bool.true_and]

theorem condB_const {c : CondD} {n : Int} (h : ¬ (c.left < 0 ∨ n ≤ c.left ∨ c.op < 0 ∨ 2 < c.op)) (h2 : ¬ c.op = 2) (h3 : c.const = true) : (decide (-1000 ≤ c.right) && decide (c.right ≤ 1000)) = condB c n := by
  unfold condB
  rw [if_neg h2, if_pos h3]
  have : (decide (0 ≤ c.left) && decide (c.left < n) && decide (0 ≤ c.op) && decide (c.op ≤ 2)) = true := by simp; omega
  rw [this, Bool.true_and]

theorem condB_cols {c : CondD} {n : Int} (h : ¬ (c.left < 0 ∨ n ≤ c.left ∨ c.op < 0 ∨ 2 < c.op)) (h2 : ¬ c.op = 2) (h3 : c.const = false) : (decide (0 ≤ c.right) && decide (c.right ≤ n - 1)) = condB c n := by
  unfold condB
  rw [if_neg h2, if_neg (by simp [h3])]
  have : (decide (0 ≤ c.left) && decide (c.left < n) && decide (0 ≤ c.op) && decide (c.op ≤ 2)) = true := by simp; omega
  rw [this, Bool.true_and]

set_option maxHeartbeats 1000000 in
theorem isCond_any (c : CondD) (n : Int) (w : World) (hn : 0 ≤ n) (hn2 : n ≤ 1000) :
    Calls Tryz.prog 48 #[c.val, .int .i64 n] w fun e w' => e = .returned (.bool (condB c n)) ∧ Below w.heap.size w w' := by
  have hbad := @condB_bad c n
  have hnil := @condB_nil c n
  have hconst := @condB_const c n
  have hcols := @condB_cols c n
  obtain ⟨nt, op, left, const, right⟩ := c
  unfold CondD.val
  simp only at hbad hnil hconst hcols
  generalize condB ⟨nt, op, left, const, right⟩ n = B at *
  by_cases h1 : left < 0 ∨ n ≤ left ∨ op < 0 ∨ 2 < op
  · have HB : Hid (false = B) := hbad h1
    clear hbad hnil hconst hcols
    go_enter Tryz.func48, Tryz.ntmps48
    go_wp2
    all_goals
      go_ret
      exact ⟨ret_bool HB.out, (Below.refl _ _).alloc (Nat.le_refl _) _⟩
  · have l1 : 0 ≤ left := by omega
    have l2 : left < n := by omega
    have l3 : 0 ≤ op := by omega
    have l4 : op ≤ 2 := by omega
    by_cases h2 : op = 2
    · have HB : Hid ((!const && decide (right = 0)) = B) := hnil h1 h2
      clear hbad hnil hconst hcols h1
      subst h2
      cases const
      · by_cases h3 : right = 0
        · subst h3
          go_enter Tryz.func48, Tryz.ntmps48
          go_wp2
          go_ret
          exact ⟨ret_bool HB.out, (Below.refl _ _).alloc (Nat.le_refl _) _⟩
        · have h3' : (right == 0) = false := by simpa using h3
          have HB' : Hid (false = B) := show false = B by have := HB.out; simpa [h3] using this
          clear HB
          go_enter Tryz.func48, Tryz.ntmps48
          go_wp2
          go_ret
          exact ⟨ret_bool HB'.out, (Below.refl _ _).alloc (Nat.le_refl _) _⟩
      · go_enter Tryz.func48, Tryz.ntmps48
        go_wp2
        go_ret
        exact ⟨ret_bool HB.out, (Below.refl _ _).alloc (Nat.le_refl _) _⟩
    · have h2' : (op == 2) = false := by simpa using h2
      cases const
      · have HB : Hid ((decide (0 ≤ right) && decide (right ≤ n - 1)) = B) := hcols h1 h2 rfl
        clear hbad hnil hconst hcols h1 h2
        go_enter Tryz.func48, Tryz.ntmps48
        go_wp2_with (go_at_call 75; refine (from_any _ _ _ _).mono ?_; rintro e w' ⟨rfl, rfl⟩)
        go_ret
        exact ⟨ret_bool HB.out, (Below.refl _ _).alloc (Nat.le_refl _) _⟩
      · have HB : Hid ((decide (-1000 ≤ right) && decide (right ≤ 1000)) = B) := hconst h1 h2 rfl
        clear hbad hnil hconst hcols h1 h2
        go_enter Tryz.func48, Tryz.ntmps48
        go_wp2_with (go_at_call 75; refine (from_any _ _ _ _).mono ?_; rintro e w' ⟨rfl, rfl⟩)
        go_ret
        exact ⟨ret_bool HB.out, (Below.refl _ _).alloc (Nat.le_refl _) _⟩

theorem out_any (q : QueryV) (w : World) (h1 : q.keys.xs.length ≤ 1000) (h2 : q.sums.xs.length ≤ 1000) :
    Calls Tryz.prog 49 #[.agg q.cells] w fun e w' => e = .returned (.int .i64 (outN q.group q.keys.xs q.sums.xs q.sel.xs)) ∧ Below w.heap.size w w' := by
  obtain ⟨src, wad, wcap, wh, group, keys, sums, sel, ord⟩ := q
  simp only at h1 h2
  unfold QueryV.cells IntsV.val
  cases group
  · go_enter Tryz.func49, Tryz.ntmps49
    go_wp2
    go_ret
    exact ⟨ret_int rfl, (Below.refl _ _).alloc (Nat.le_refl _) _⟩
  · go_enter Tryz.func49, Tryz.ntmps49
    go_wp2
    go_ret
    exact ⟨ret_int rfl, (Below.refl _ _).alloc (Nat.le_refl _) _⟩

end Go.Proofs.YtlpbelhfpoilpaaGreat

namespace Go.Proofs.YtlpbelhfpoilpaaGreat
open Go.RowKit Go.Scout

set_option maxHeartbeats 2000000 in
theorem isCatalog_any (ao : Option Addr) (cap : Nat) (ts : List TableD) (w : World) (hx : TablesAt w ao ts) :
    Calls Tryz.prog 45 #[.slice ao ts.length cap] w fun e w' => e = .returned (.bool (catB ts)) ∧ Below w.heap.size w w' := by
  have hl := hx.1
  by_cases h0 : ts.length < 1
  · go_enter Tryz.func45, Tryz.ntmps45
    go_wp2
    go_ret
    exact ⟨ret_bool (catB_short h0), Below.refl _ _⟩
  by_cases h8 : 8 < ts.length
  · go_enter Tryz.func45, Tryz.ntmps45
    go_wp2
    go_ret
    exact ⟨ret_bool (catB_long h8), Below.refl _ _⟩
  go_enter Tryz.func45, Tryz.ntmps45
  go_wp2
  go_loopw [3] (fun i wr => ∃ k : Nat, k ≤ ts.length ∧ i = .int .i64 k ∧ Hid ((ts.take k).all tableB = true) ∧ Below w.heap.size w wr) (fun i _ => ts.length - (intOf i).toNat)
  case atStart => exact ⟨0, Nat.zero_le _, rfl, rfl, Below.refl _ _⟩
  case round =>
    obtain ⟨k, hk, rfl, HP, hb⟩ := hrel
    by_cases hlt : k < ts.length
    · obtain ⟨b, off, rfl, c0, c1, c2, c3, c4, c5⟩ := hx.2 k hlt
      have hbw : b < w.heap.size := lt_of_cell c0
      have e0 := (hb.cell (p := ⟨b, off + k * 6, none⟩) hbw).trans c0
      have e1 := (hb.cell (p := ⟨b, off + k * 6 + 1, none⟩) hbw).trans c1
      have e2 := (hb.cell (p := ⟨b, off + k * 6 + 2, none⟩) hbw).trans c2
      have e3 := (hb.cell (p := ⟨b, off + k * 6 + 3, none⟩) hbw).trans c3
      have e4 := (hb.cell (p := ⟨b, off + k * 6 + 4, none⟩) hbw).trans c4
      have e5 := (hb.cell (p := ⟨b, off + k * 6 + 5, none⟩) hbw).trans c5
      clear c0 c1 c2 c3 c4 c5 hx
      generalize ht : ts.getD k tz = t at *
      have HT : Hid (ts.getD k tz = t) := ht
      clear ht
      have hsz := hb.size
      by_cases h1 : t.cols < 1 ∨ 4 < t.cols ∨ t.rows < 0 ∨ 1000000 < t.rows
      · have HF : Hid (false = catB ts) := catB_bad hlt (by rw [HT.out]; exact tableB_bad h1)
        go_wp2
        all_goals
          go_ret
          exact ⟨ret_bool HF.out, hb.alloc hsz _⟩
      · have l1 : 1 ≤ t.cols := by omega
        have l2 : t.cols ≤ 4 := by omega
        have l3 : 0 ≤ t.rows := by omega
        have l4 : t.rows ≤ 1000000 := by omega
        clear h1
        go_wp2
        go_loop [5] (fun i => ∃ m : Nat, m ≤ t.cols.toNat ∧ i = .int .i64 m ∧ Hid (∀ j, j < m → 1 ≤ t.kd j ∧ t.kd j ≤ 1000000)) (fun i => t.cols.toNat - (intOf i).toNat)
        case atStart => exact ⟨0, Nat.zero_le _, rfl, fun j hj => absurd hj (by omega)⟩
        case round =>
          obtain ⟨m, hm, rfl, HM⟩ := hrel
          by_cases hml : m < t.cols.toNat
          · have hml' : (m : Int) < t.cols := by omega
            have hm4 : m < 4 := by omega
            have hkd := TableD.kd_cell wr t 54 m hm4
            by_cases hk1 : t.kd m < 1
            · have HF : Hid (false = catB ts) := catB_bad hlt (by rw [HT.out]; exact tableB_badk m hml (by omega))
              go_wp2
              go_ret
              exact ⟨ret_bool HF.out, hb.alloc hsz _⟩
            · by_cases hk2 : 1000000 < t.kd m
              · have HF : Hid (false = catB ts) := catB_bad hlt (by rw [HT.out]; exact tableB_badk m hml (by omega))
                go_wp2
                go_ret
                exact ⟨ret_bool HF.out, hb.alloc hsz _⟩
              · go_wp2
                go_round
                case rel =>
                  refine ⟨m + 1, by omega, by go_num, fun j hj => ?_⟩
                  by_cases hjm : j = m
                  · subst hjm; omega
                  · exact HM.out j (by omega)
                case measure => simp [intOf]; omega
          · have hml' : ¬ (m : Int) < t.cols := by omega
            have HG : Hid (tableB t = true) := tableB_good l1 l2 l3 l4 (fun j hj => HM.out j (by omega))
            go_wp2
            go_roundw
            case rel => exact ⟨k + 1, by omega, by go_num, all_step (z := tz) hlt HP.out (by rw [HT.out]; exact HG.out), hb.alloc hsz _⟩
            case measure => simp [intOf]; omega
    · go_wp2
      go_ret
      exact ⟨ret_bool (catB_good h0 h8 hk hlt HP.out), hb⟩

end Go.Proofs.YtlpbelhfpoilpaaGreat

