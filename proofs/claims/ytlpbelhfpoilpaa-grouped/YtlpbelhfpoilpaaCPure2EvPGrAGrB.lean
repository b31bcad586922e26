import Derived.Laws.CopyOwn
import Derived.Deep.RegionLaw
import Derived.Test.YtlpbelhfpoilpaaCProgFProgGProgHAll
import Derived.Test.YtlpbelhfpoilpaaCPure0BaseRPure1DatA
import Derived.Test.YtlpbelhfpoilpaaCPickA
import Derived.Test.YtlpbelhfpoilpaaCTruBMkBMkC
import Derived.Test.YtlpbelhfpoilpaaCMkD
set_option linter.all false
namespace Go.Scout
open Go.RowKit

theorem dbB_fit {ts : List TableD} {db : List RowsV} (h : dbB ts db = true) {i : Nat} (hi : i < db.length) : (db.getD i rz).rs.length ≤ 50 ∧ ∀ r ∈ (db.getD i rz).rs, (r.xs.length : Int) = (ts.getD i tz).cols := by
  unfold dbB at h
  rw [List.all_eq_true] at h
  have h1 := h i (by simpa using hi)
  unfold tabB fitB at h1
  simp only [Bool.and_eq_true, decide_eq_true_eq] at h1
  refine ⟨h1.1, fun r hr => ?_⟩
  have h2 := h1.2
  rw [List.all_eq_true] at h2
  exact (rowB_at (h2 r hr)).1

theorem tabN_fit {ts : List TableD} {db : List RowsV} (h : dbB ts db = true) (t : Int) : ∀ r ∈ tabN db t, t.toNat < db.length ∧ (r.length : Int) = (ts.getD t.toNat tz).cols := by
  intro r hr
  unfold tabN at hr
  obtain ⟨x, hx, rfl⟩ := List.mem_map.1 hr
  by_cases hi : t.toNat < db.length
  · exact ⟨hi, (dbB_fit h hi).2 x hx⟩
  · have : db.getD t.toNat rz = rz := by simp [List.getD, hi]
    rw [this] at hx
    simp [rz] at hx

theorem combos_len {ts : List TableD} {src : List Int} {db : List RowsV} (h : dbB ts db = true) : ∀ r ∈ combosN src db, (r.length : Int) = widthN ts src := by
  have hg : ∀ (l : List Int) (T : List (List Int)) (m : Int), (∀ r ∈ T, (r.length : Int) = m) → ∀ r ∈ (l.map (tabN db)).foldl joinN T, (r.length : Int) = m + widthN ts l := by
    intro l
    induction l with
    | nil => intro T m hT r hr; have := hT r hr; simp [widthN]; exact this
    | cons a l ih =>
      intro T m hT r hr
      have hw : widthN ts (a :: l) = (ts.getD a.toNat tz).cols + widthN ts l := by simp [widthN]
      have := ih (joinN T (tabN db a)) (m + (ts.getD a.toNat tz).cols) (fun x hx => by
        unfold joinN at hx
        obtain ⟨y, hy, hx⟩ := List.mem_flatMap.1 hx
        obtain ⟨z, hz, rfl⟩ := List.mem_map.1 hx
        have h1 := hT y hy
        have h2 := (tabN_fit h a z hz).2
        rw [List.length_append]
        omega) r hr
      omega
  intro r hr
  unfold combosN at hr
  cases src with
  | nil => simp [combosT] at hr
  | cons a l =>
    have hw : widthN ts (a :: l) = (ts.getD a.toNat tz).cols + widthN ts l := by simp [widthN]
    have := hg l (tabN db a) (ts.getD a.toNat tz).cols (fun x hx => (tabN_fit h a x hx).2) r hr
    omega

theorem joinN_count (L R : List (List Int)) : (joinN L R).length = L.length * R.length := by
  unfold joinN
  induction L with
  | nil => simp
  | cons a L ih => rw [List.flatMap_cons, List.length_append, ih, List.length_map, List.length_cons, Nat.succ_mul, Nat.add_comm]

theorem combos_count (src : List Int) (db : List RowsV) : (combosN src db).length ≤ prodN src db := by
  have hg : ∀ (l : List Int) (T : List (List Int)) (n : Nat), T.length ≤ n → ((l.map (tabN db)).foldl joinN T).length ≤ l.foldl (fun n t => n * max 1 (db.getD t.toNat rz).rs.length) n := by
    intro l
    induction l with
    | nil => intro T n h; exact h
    | cons a l ih =>
      intro T n h
      refine ih (joinN T (tabN db a)) _ ?_
      rw [joinN_count, tabN_len]
      exact Nat.mul_le_mul h (by omega)
  unfold combosN prodN
  cases src with
  | nil => simp [combosT]
  | cons a l =>
    refine hg l (tabN db a) _ ?_
    rw [tabN_len]
    show _ ≤ 1 * max 1 _
    omega

end Go.Scout

namespace Go.Scout
open Go.RowKit

theorem check_parts {q : QueryV} {ts : List TableD} (h : q.check ts = 0) : catB ts = true ∧ fullB q.src.xs q.whs q.keys.xs q.sums.xs q.sel.xs q.ord.xs = false ∧ allB q.src.xs ts.length = true ∧ 0 < q.src.xs.length ∧ clausesB q.whs (widthN ts q.src.xs) = true ∧ restB (widthN ts q.src.xs) q.group q.keys.xs q.sums.xs q.sel.xs q.ord.xs = true := by
  unfold QueryV.check checkN at h
  by_cases h1 : catB ts = false
  · rw [if_pos h1] at h; omega
  · rw [if_neg h1] at h
    by_cases h2 : fullB q.src.xs q.whs q.keys.xs q.sums.xs q.sel.xs q.ord.xs = true
    · rw [if_pos h2] at h; omega
    · rw [if_neg h2] at h
      by_cases h3 : allB q.src.xs ts.length = true ∧ 0 < q.src.xs.length ∧ clausesB q.whs (widthN ts q.src.xs) = true ∧ restB (widthN ts q.src.xs) q.group q.keys.xs q.sums.xs q.sel.xs q.ord.xs = true
      · exact ⟨by simpa using h1, by simpa using h2, h3.1, h3.2.1, h3.2.2.1, h3.2.2.2⟩
      · rw [if_neg h3] at h; omega

theorem full_parts {src : List Int} {wh : List (List CondD)} {keys sums sel ord : List Int} (h : fullB src wh keys sums sel ord = false) : src.length ≤ 5 ∧ wh.length ≤ 8 ∧ sel.length ≤ 8 ∧ keys.length ≤ 4 ∧ sums.length ≤ 4 ∧ ord.length ≤ 4 := by
  unfold fullB at h
  rw [Bool.or_eq_false_iff] at h
  have := of_decide_eq_false h.1
  omega

theorem getD_mem {α : Type} {l : List α} {d : α} {k : Nat} (hk : k < l.length) : l.getD k d ∈ l := by
  have e : l.getD k d = l[k] := by simp [List.getD, hk]
  rw [e]
  exact List.getElem_mem hk

theorem clause_conds {q : QueryV} {n : Int} (h : clausesB q.whs n = true) {i : Nat} (hi : i < q.wh.length) {k : Nat} (hk : k < (q.wh.getD i lz).cs.length) : condB ((q.wh.getD i lz).cs.getD k cz) n = true := by
  unfold clausesB QueryV.whs at h
  rw [List.all_map, List.all_eq_true] at h
  have hm : q.wh.getD i lz ∈ q.wh := by simp [List.getD, hi]
  have h1 := h _ hm
  simp only [Function.comp] at h1
  unfold clauseB at h1
  simp only [Bool.and_eq_true] at h1
  have h2 := h1.2
  rw [List.all_eq_true] at h2
  exact h2 _ (getD_mem hk)

end Go.Scout
namespace Go.Proofs.Ytlpbelhfpoilpaa
open Go.RowKit Go.Scout Go.Shelf

set_option maxRecDepth 20000 in
set_option maxHeartbeats 8000000 in
/-- scout.Eval of a query that is one, groups nothing and asks no order, on a database that is one. -/
theorem evalP_any (co d : Option Addr) (cc dcap : Nat) (ts : List TableD) (q : QueryV) (db : List RowsV) (w : World) (hts : TablesAt w co ts) (hq : q.At w) (hkc : q.keys.xs.length ≤ q.keys.cap) (hoc : q.ord.xs.length ≤ q.ord.cap) (hsc : q.src.xs.length ≤ q.src.cap) (hdb : DbHad w d db)
    (hg : q.group = false) (ho : q.ord.xs = []) (hchk : q.check ts = 0) (hdat : dataB ts q.src.xs db = true) :
    Calls Try.prog 17 #[.slice co ts.length cc, .agg q.cells, .slice d db.length dcap] w fun e w' => ∃ (v : Value) (ys : List IntsV) (o : Nat → Prop) (w1 : World), e = .returned (.tuple #[v, .int .i64 0]) ∧ ys.map IntsV.xs = ((combosN q.src.xs db).filter (holdsB q.wh)).map (fun r => pickN r q.sel.xs) ∧
      Gathered (ownEl 3) w1.heap.size w1 23 ys o w' v ∧ Below w.heap.size w w1 := by
  obtain ⟨p1, p2, p3, p4, p5, p6⟩ := check_parts hchk
  have hf := full_parts p2
  have hdd : (db.length = ts.length ∧ dbB ts db = true) ∧ prodN q.src.xs db ≤ 20000 := by
    unfold dataB at hdat
    simp only [Bool.and_eq_true, decide_eq_true_eq] at hdat
    exact hdat
  have hcl := combos_len (src := q.src.xs) hdd.1.2
  have hcc := combos_count q.src.xs db
  have hsel : allB q.sel.xs (widthN ts q.src.xs) = true := by
    unfold restB at p6
    simp only [Bool.and_eq_true] at p6
    exact p6.1.1.1.1.1.1.1
  have hrow : ∀ t, ∀ r ∈ tabN db t, r.length ≤ 100 := fun t r hr => by
    obtain ⟨h1, h2⟩ := tabN_fit hdd.1.2 t r hr
    have := (cols_of p1 (i := t.toNat) (by omega)).2
    omega
  have hlen : ∀ t, (tabN db t).length ≤ 1000000 := fun t => by
    rw [tabN_len]
    have := dbB_len hdd.1.2 t.toNat
    omega
  have hb0 := below_alloc w (.cells q.cells 26)
  have hc1 := checkQ_any co cc ts q _ (hts.below hb0) (hq.below hb0) hkc hoc
  rw [hchk] at hc1
  obtain ⟨w0, hw0⟩ : ∃ w0, w.alloc (.cells q.cells 26) = w0 := ⟨_, rfl⟩
  have HX : Hid (w0.cell? ⟨w.heap.size, 0, none⟩ = some q.src.val ∧ w0.cell? ⟨w.heap.size, 1, none⟩ = some (.slice q.wad q.wh.length q.wcap) ∧ w0.cell? ⟨w.heap.size, 2, none⟩ = some (.bool q.group) ∧ w0.cell? ⟨w.heap.size, 3, none⟩ = some q.keys.val ∧ w0.cell? ⟨w.heap.size, 4, none⟩ = some q.sums.val ∧ w0.cell? ⟨w.heap.size, 5, none⟩ = some q.sel.val ∧ w0.cell? ⟨w.heap.size, 6, none⟩ = some q.ord.val) := by
    rw [← hw0]; unfold QueryV.cells; refine ⟨?_, ?_, ?_, ?_, ?_, ?_, ?_⟩ <;> simp
  rw [hw0] at hc1 hb0
  have hcd := fun (x : World) (hb : Below w.heap.size w x) => checkData_any co cc ts q d dcap db x (hts.below hb) (IntsAt.below hb hq.src) (hdb.1.below hb) p3 hf.1
  rw [if_pos hdat] at hcd
  have han := fun (x : World) (hb : Below w.heap.size w x) => answerP_any q d dcap db x hg ho (hq.below hb) (hdb.below hb) p4 hf.1 hsc (by rw [hdd.1.1]; exact p3) hrow hlen (fun r hr i hi k hk => by rw [hcl r hr]; exact clause_conds p5 hi hk) (by have := hf.2.2.1; omega) (fun r hr => by rw [hcl r hr]; exact hsel)
  have hrl : (((combosN q.src.xs db).filter (holdsB q.wh)).map (fun r => pickN r q.sel.xs)).length ≤ 1000000 := by
    rw [List.length_map]
    have := List.length_filter_le (holdsB q.wh) (combosN q.src.xs db)
    have := hdd.2
    omega
  have HRL : Hid _ := hrl
  have HCD : Hid _ := hcd
  have HAN : Hid _ := han
  have HB0 : Hid _ := hb0
  have HW0 : Hid _ := hw0
  clear hcd han hrl hb0 hw0 hts hq hkc hoc hsc hdb hchk hdat p1 p2 p3 p4 p5 p6 hf hdd hcl hcc hsel hrow hlen
  generalize ((combosN q.src.xs db).filter (holdsB q.wh)).map (fun r => pickN r q.sel.xs) = rows at *
  obtain ⟨⟨sad, scap, sxs⟩, wad, wcap, wh, group, keys, sums, ⟨lad, lcap, lxs⟩, ⟨oad, ocap, oxs⟩⟩ := q
  unfold QueryV.cells IntsV.val at *
  simp only at *
  subst ho
  subst hg
  obtain ⟨c0, c1, c2, c3, c4, c5, c6⟩ := HX.out
  simp only [List.length_nil] at *
  go_enter Try.func17, Try.ntmps17
  go_wp2_with fail
  rw [HW0.out]
  refine hc1.mono ?_
  rintro e w1 ⟨rfl, hb1⟩
  have hbw1 : Below w.heap.size w w1 := HB0.out.trans (hb1.mono HB0.out.size)
  have d0 := cell_below hb1 c0
  have d1 := cell_below hb1 c1
  have d2 := cell_below hb1 c2
  have d3 := cell_below hb1 c3
  have d4 := cell_below hb1 c4
  have d5 := cell_below hb1 c5
  have d6 := cell_below hb1 c6
  have hcd := HCD.out w1 hbw1
  clear hc1 c0 c1 c2 c3 c4 c5 c6
  go_wp2_with fail
  refine Calls.mono hcd ?_
  rintro e w2 ⟨rfl, hb2⟩
  have hbw2 : Below w.heap.size w w2 := hbw1.trans (hb2.mono hbw1.size)
  have e0 := cell_below hb2 d0
  have e1 := cell_below hb2 d1
  have e2 := cell_below hb2 d2
  have e3 := cell_below hb2 d3
  have e4 := cell_below hb2 d4
  have e5 := cell_below hb2 d5
  have e6 := cell_below hb2 d6
  have han := HAN.out w2 hbw2
  clear hcd d0 d1 d2 d3 d4 d5 d6
  go_wp2_with fail
  refine Calls.mono han ?_
  rintro e w3 ⟨v, rfl, hsv, hb3⟩
  have hbw3 : Below w.heap.size w w3 := hbw2.trans (hb3.mono hbw2.size)
  obtain ⟨g3, lb3, rfl, eg3, hs3⟩ := hsv
  have hga := gather_any (ownEl 3) (fun _ => rfl) g3 lb3 rows w3 w3 (Below.refl _ _) HRL.out hs3 eg3
  clear han e0 e1 e2 e3 e4 e5 e6 hs3 eg3
  go_wp2_with fail
  refine hga.mono ?_
  rintro e w4 ⟨v4, ys, o4, rfl, hys, hG4⟩
  obtain ⟨va, vn, vc, rfl⟩ := ownsRow_slice hG4.own
  clear hga
  go_wp2
  go_ret2
  exact ⟨_, ys, o4, w3, rfl, hys, hG4, hbw3⟩

end Go.Proofs.Ytlpbelhfpoilpaa

namespace Go.Proofs.Ytlpbelhfpoilpaa
open Go.RowKit Go.Scout

set_option maxRecDepth 20000 in
set_option maxHeartbeats 4000000 in
theorem mul64_small (c : Nat) (w : World) (hc : c ≤ 4) :
    Calls Try.prog 116 #[.int .u64 1, .int .u64 c] w fun e w' => e = .returned (.tuple #[.int .u64 0, .int .u64 c]) ∧ w' = w := by
  obtain rfl | rfl | rfl | rfl | rfl : c = 0 ∨ c = 1 ∨ c = 2 ∨ c = 3 ∨ c = 4 := by omega
  all_goals
    go_enter Try.func116, Try.ntmps116
    go_wp2
    go_ret2
    exact ⟨rfl, rfl⟩

set_option maxRecDepth 20000 in
set_option maxHeartbeats 4000000 in
theorem mul_small (c : Nat) (w : World) (hc : c ≤ 4) :
    Calls Try.prog 113 #[.int .u64 1, .int .u64 c] w fun e w' => e = .returned (.tuple #[.int .u64 0, .int .u64 c]) ∧ w' = w := by
  have h := mul64_small c w hc
  go_enter Try.func113, Try.ntmps113
  go_wp2_with fail
  refine h.mono ?_
  rintro e w2 ⟨rfl, rfl⟩
  go_wp2
  go_ret2
  exact ⟨rfl, rfl⟩

end Go.Proofs.Ytlpbelhfpoilpaa

namespace Go.Scout
open Go.RowKit

def repArr (v : Int) (c k : Nat) : List Value := List.replicate k (Value.int .i64 v) ++ List.replicate (c - k) (Value.int .i64 0)

theorem repArr_len (v : Int) {c k : Nat} (h : k ≤ c) : (repArr v c k).length = c := by simp [repArr]; omega
theorem repArr_all (v : Int) (c : Nat) : repArr v c c = List.replicate c (Value.int .i64 v) := by simp [repArr]
theorem repArr_none (v : Int) (c : Nat) : madeCells #[.int .i64 0] c = (repArr v c 0).toArray := by
  rw [madeCells_one]
  simp [repArr]
theorem repArr_splice (v : Int) {c k m : Nat} (h : k + m ≤ c) : splice (repArr v c k) k (List.replicate m (Value.int .i64 v)) = repArr v c (k + m) := by
  unfold splice repArr
  rw [List.take_left' (by simp), List.length_replicate, List.drop_append, List.length_replicate, List.drop_eq_nil_of_le (by simp), List.nil_append, List.drop_replicate, ← List.append_assoc, List.replicate_append_replicate]
  congr 2
  omega
theorem repArr_cell (v : Int) {c k j : Nat} (hj : j < k) : (repArr v c k)[j]? = some (Value.int .i64 v) := by
  unfold repArr
  rw [List.getElem?_append_left (by simpa using hj), List.getElem?_replicate, if_pos hj]

end Go.Scout
namespace Go.Proofs.Ytlpbelhfpoilpaa
open Go.RowKit Go.Scout

theorem Try.sizeInt : (Try.prog.info? 3).map (·.size) = some 1 := by kernel_rfl

theorem rep_copy0 (w : World) (xb : Nat) (v : Int) (c : Nat) (hc : 0 < c) (hx : w.cell? ⟨xb, 0, none⟩ = some (.int .i64 v)) (ty : TypeId) :
    (Builtin.copy_ #[23, 23] ty #[.slice (some ⟨w.heap.size, 0, none⟩) c c, .slice (some ⟨xb, 0, none⟩) 1 1]).run Try.prog (w.alloc (.cells (repArr v c 0).toArray 3)) = .ok (goInt 1) (w.alloc (.cells (repArr v c 1).toArray 3)) := by
  rw [run_copy_wide (w.alloc (.cells (repArr v c 0).toArray 3)) 23 23 ty 3 1 w.heap.size c c (some ⟨xb, 0, none⟩) 1 1 (repArr v c 0).toArray 3 [.int .i64 v] Try.underlying23 Try.sizeInt (heap_alloc_new w _) hc rfl
    (fun _ => ⟨_, rfl, fun j u hj => by
      match j, hj with
      | 0, hj => cases hj; exact cell_below (below_alloc w _) hx⟩) (by simp [repArr]; omega) (fun u hu => by simp at hu; subst hu; rfl), setRow_alloc]
  have h : splice (repArr v c 0) 0 (List.replicate 1 (Value.int .i64 v)) = repArr v c (0 + 1) := repArr_splice v (by omega)
  unfold splice at h
  simp only [List.take_zero, List.nil_append, Nat.zero_add, List.length_replicate, List.replicate_one] at h
  exact congrArg (fun l => Result.ok (goInt 1) (w.alloc (.cells (List.toArray l) 3))) h

theorem rep_copy1 (W : World) (g : Nat) (v : Int) (c k m : Nat) (hg : W.heap[g]? = some (.cells (repArr v c k).toArray 3)) (hm : Nat.min k (c - k) = m) (hk : 0 < k) (hc : k < c) (ty : TypeId) :
    (Builtin.copy_ #[23, 23] ty #[.slice (some ⟨g, k, none⟩) (c - k) (c - k), .slice (some ⟨g, 0, none⟩) k c]).run Try.prog W = .ok (.int .i64 m) (W.setRow g (repArr v c (k + m)).toArray) := by
  have hm' : min k (c - k) = m := hm
  have hmk : m ≤ k ∧ k + m ≤ c := by omega
  rw [run_copy_row (P := Try.prog) W 23 23 ty 3 g k (c - k) (c - k) ⟨g, 0, none⟩ k c (repArr v c k).toArray 3 (List.replicate m (.int .i64 v)) Try.underlying23 Try.sizeInt hg (by rw [List.length_replicate, hm])
    (fun j u hj => by
      have hj' : j < m := by have := (List.getElem?_eq_some_iff.1 hj).1; simpa using this
      rw [List.getElem?_replicate, if_pos hj'] at hj
      cases hj
      have hcl := repArr_cell v (c := c) (k := k) (j := j) (by omega)
      rw [addr_add]
      simp [World.cell?, hg, hcl]) (by rw [List.length_replicate, List.size_toArray, repArr_len v (by omega)]; omega) (fun u hu => by obtain ⟨_, rfl⟩ := List.mem_replicate.1 hu; rfl)]
  have h : splice (repArr v c k) k (List.replicate m (Value.int .i64 v)) = repArr v c (k + m) := repArr_splice v hmk.2
  unfold splice at h
  rw [List.length_replicate] at h ⊢
  rw [← List.append_assoc] at h
  exact congrArg (fun l => Result.ok (goInt m) (W.setRow g (List.toArray l))) h

set_option maxRecDepth 20000 in
set_option maxHeartbeats 8000000 in
theorem repeat_any (xb : Nat) (v : Int) (c : Nat) (w : World) (hc : c ≤ 4) (hx : w.cell? ⟨xb, 0, none⟩ = some (.int .i64 v)) :
    Calls Try.prog 110 #[.slice (some ⟨xb, 0, none⟩) 1 1, .int .i64 c] w fun e w' => e = .returned (.slice (some ⟨w.heap.size, 0, none⟩) c c) ∧ w'.heap[w.heap.size]? = some (.cells (List.replicate c (Value.int .i64 v)).toArray 3) ∧ Below w.heap.size w w' ∧ w'.heap.size = w.heap.size + 1 := by
  have hmk := run_make_row' (P := Try.prog) 23 3 (.int .i64 0) 8 Try.underlying23 Try.infoInt rfl .i64 .i64 c (by omega) (by omega)
  rw [repArr_none v c] at hmk
  have hmul := mul_small c w hc
  obtain ⟨k0, hk0⟩ : ∃ k0, Nat.min 1 c = k0 := ⟨_, rfl⟩
  have hk1 : k0 ≤ c ∧ k0 ≤ 1 ∧ (k0 = 0 → c = 0) := by
    have h : min 1 c = k0 := hk0
    omega
  have hcp : ∀ ty, (Builtin.copy_ #[23, 23] ty #[.slice (some ⟨w.heap.size, 0, none⟩) c c, .slice (some ⟨xb, 0, none⟩) 1 1]).run Try.prog (w.alloc (.cells (repArr v c 0).toArray 3)) = .ok (goInt k0) (w.alloc (.cells (repArr v c k0).toArray 3)) := by
    intro ty
    have h : min 1 c = k0 := hk0
    by_cases h0 : c = 0
    · subst h0
      obtain rfl : k0 = 0 := by omega
      exact run_copy_none (P := Try.prog) _ 23 23 ty 3 _ _ 0 0 1 1 Try.underlying23 Try.sizeInt rfl
    · obtain rfl : k0 = 1 := by omega
      exact rep_copy0 w xb v c (by omega) hx ty
  have HK1 : Hid _ := hk1
  clear hk0 hk1 hx
  have hgi : ∀ n : Nat, goInt (n : Int) = .int .i64 n := fun _ => rfl
  rw [hgi] at hcp
  go_enter Try.func110, Try.ntmps110
  go_wp2_with fail
  refine hmul.mono ?_
  rintro e w2 ⟨rfl, rfl⟩
  clear hmul
  go_wp2
  go_loopw [8] (fun s wr => ∃ k : Nat, k ≤ c ∧ s = .int .i64 k ∧ (k = 0 → c = 0) ∧ wr.heap[w2.heap.size]? = some (.cells (repArr v c k).toArray 3) ∧ Below w2.heap.size w2 wr ∧ wr.heap.size = w2.heap.size + 1) (fun s _ => c - (intOf s).toNat)
  case atStart => exact ⟨k0, HK1.out.1, rfl, HK1.out.2.2, heap_alloc_new _ _, below_alloc _ _, by simp⟩
  case round =>
    obtain ⟨k, hk, rfl, hk00, hg, hb, hsz⟩ := hrel
    by_cases hlt : k < c
    · obtain ⟨m, hm⟩ : ∃ m, Nat.min k (c - k) = m := ⟨_, rfl⟩
      have hcp1 := rep_copy1 wr.drew w2.heap.size v c k m hg hm (by omega) hlt
      have hm' : min k (c - k) = m := hm
      have hm1 : 0 < m ∧ k + m ≤ c := by omega
      have HM : Hid _ := hm1
      have HS : Hid _ := hsz
      have HB : Hid _ := hb
      have HG : Hid _ := hg
      clear hm hm' hm1 hcp hmk hk00 hsz hb hg
      go_wp2
      go_region
      all_goals
        have hb2 : Below w2.heap.size w2 (wr.drew.setRow w2.heap.size (repArr v c (k + m)).toArray) := below_setRow HB.out.drew (Nat.le_refl _) _
        have hwr : wrap64 ((k : Int) + (m : Int)) = ((k + m : Nat) : Int) := by have := HM.out; unfold wrap64; omega
        have hg2 : (wr.drew.setRow w2.heap.size (repArr v c (k + m)).toArray).heap[w2.heap.size]? = some (.cells (repArr v c (k + m)).toArray 3) := setRow_heap wr.drew w2.heap.size _ _ _ _ HG.out
        have hs2 : (wr.drew.setRow w2.heap.size (repArr v c (k + m)).toArray).heap.size = w2.heap.size + 1 := (setRow_size _ _ _).trans HS.out
        rw [hwr]
        have HB2 : Hid _ := hb2
        have HG2 : Hid _ := hg2
        have HS2 : Hid _ := hs2
        clear hb2 hwr hg2 hs2
        generalize wr.drew.setRow w2.heap.size (repArr v c (k + m)).toArray = wf at *
        go_wp2
        go_roundw
        case rel => exact ⟨k + m, HM.out.2, rfl, fun h => by have := HM.out; omega, HG2.out, HB2.out, HS2.out⟩
        case measure => have := HM.out; simp [intOf]; omega
    · have hkk : k = c := by omega
      subst hkk
      rw [repArr_all] at hg
      go_wp2
      go_ret
      exact ⟨rfl, hg, hb, hsz⟩

end Go.Proofs.Ytlpbelhfpoilpaa

