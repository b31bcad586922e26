import Derived.RegionTactic
import Derived.BigQuiet
import Derived.Test.YtlpbelhfpoilpaaCBaseBase2Base3Base4
import Derived.Test.YtlpbelhfpoilpaaCBase5LendBase6Base7
import Derived.Test.YtlpbelhfpoilpaaCRLawItAItBItC
import Derived.Test.YtlpbelhfpoilpaaCPure2EvPGrAGrB
import Derived.Test.YtlpbelhfpoilpaaCGrN
set_option linter.all false
namespace Go.Scout
open Go.RowKit

theorem groupsN_len (kc sc : List Int) (rows : List (List Int)) : (groupsN kc sc rows).length ≤ 1 + rows.length := by
  have h := fold_len kc sc (rows.map fun r => (⟨none, 0, r⟩ : IntsV)) (startG kc sc)
  rw [List.foldl_map, List.length_map] at h
  have h3 : (startG kc sc).length ≤ 1 := by unfold startG; split <;> simp
  have h' : (rows.foldl (Go.Scout.stepG kc sc) (startG kc sc)).length ≤ (startG kc sc).length + rows.length := h
  unfold groupsN
  omega

theorem tabN_small {ts : List TableD} {db : List RowsV} (h : dbB ts db = true) (t : Int) : ∀ r ∈ tabN db t, ∀ v ∈ r, smallI v := by
  intro r hr v hv
  unfold tabN at hr
  obtain ⟨x, hx, rfl⟩ := List.mem_map.1 hr
  by_cases hi : t.toNat < db.length
  · unfold dbB at h
    rw [List.all_eq_true] at h
    have h1 := h t.toNat (List.mem_range.2 hi)
    unfold tabB fitB at h1
    rw [Bool.and_eq_true, List.all_eq_true] at h1
    have h2 := h1.2 x hx
    unfold rowB at h2
    rw [Bool.and_eq_true, List.all_eq_true] at h2
    have h3 := h2.2 v hv
    unfold valB at h3
    simp only [Bool.or_eq_true, Bool.and_eq_true, decide_eq_true_eq] at h3
    unfold smallI
    omega
  · have e : db.getD t.toNat rz = rz := by simp [List.getD, List.getElem?_eq_none (Nat.le_of_not_lt hi)]
    rw [e] at hx
    simp [rz] at hx

theorem joinN_small {L R : List (List Int)} (hL : ∀ r ∈ L, ∀ v ∈ r, smallI v) (hR : ∀ r ∈ R, ∀ v ∈ r, smallI v) : ∀ r ∈ joinN L R, ∀ v ∈ r, smallI v := by
  intro r hr v hv
  unfold joinN at hr
  obtain ⟨x, hx, hr⟩ := List.mem_flatMap.1 hr
  obtain ⟨y, hy, rfl⟩ := List.mem_map.1 hr
  rcases List.mem_append.1 hv with h | h
  · exact hL x hx v h
  · exact hR y hy v h

theorem foldJ_small : ∀ (ts : List (List (List Int))) (t : List (List Int)), (∀ r ∈ t, ∀ v ∈ r, smallI v) → (∀ u ∈ ts, ∀ r ∈ u, ∀ v ∈ r, smallI v) → ∀ r ∈ ts.foldl joinN t, ∀ v ∈ r, smallI v
  | [], _, h, _ => h
  | u :: ts, t, h, hs => foldJ_small ts (joinN t u) (joinN_small h (hs u (by simp))) (fun x hx => hs x (by simp [hx]))

theorem combos_small {ts : List TableD} {db : List RowsV} (h : dbB ts db = true) (src : List Int) : ∀ r ∈ combosN src db, ∀ v ∈ r, smallI v := by
  unfold combosN
  cases src with
  | nil => intro r hr; simp [combosT] at hr
  | cons a l =>
    rw [List.map_cons]
    refine foldJ_small _ _ (tabN_small h a) (fun u hu => ?_)
    obtain ⟨c, _, rfl⟩ := List.mem_map.1 hu
    exact tabN_small h c

end Go.Scout
namespace Go.Proofs.Ytlpbelhfpoilpaa
open Go.RowKit Go.Scout Go.Shelf

set_option maxRecDepth 20000 in
set_option maxHeartbeats 8000000 in
/-- scout.Eval of a query that is one, groups and asks no order, on a database that is one. -/
theorem evalG_any (co d : Option Addr) (cc dcap : Nat) (ts : List TableD) (q : QueryV) (db : List RowsV) (w : World) (hts : TablesAt w co ts) (hq : q.At w) (hkc : q.keys.xs.length ≤ q.keys.cap) (hoc : q.ord.xs.length ≤ q.ord.cap) (hsc : q.src.xs.length ≤ q.src.cap) (hdb : DbHad w d db)
    (hg : q.group = true) (ho : q.ord.xs = []) (hchk : q.check ts = 0) (hdat : dataB ts q.src.xs db = true) :
    Calls Try.prog 17 #[.slice co ts.length cc, .agg q.cells, .slice d db.length dcap] w fun e w' => ∃ (v : Value) (ys : List IntsV) (o : Nat → Prop) (w1 : World), e = .returned (.tuple #[v, .int .i64 0]) ∧ ys.map IntsV.xs = (groupsN q.keys.xs q.sums.xs ((combosN q.src.xs db).filter (holdsB q.wh))).map Gr.row ∧
      Gathered (ownEl 3) w1.heap.size w1 23 ys o w' v ∧ Below w.heap.size w w1 := by
  obtain ⟨p1, p2, p3, p4, p5, p6⟩ := check_parts hchk
  have hf := full_parts p2
  have hdd : (db.length = ts.length ∧ dbB ts db = true) ∧ prodN q.src.xs db ≤ 20000 := by
    unfold dataB at hdat
    simp only [Bool.and_eq_true, decide_eq_true_eq] at hdat
    exact hdat
  have hcl := combos_len (src := q.src.xs) hdd.1.2
  have hcc := combos_count q.src.xs db
  have hkey : allB q.keys.xs (widthN ts q.src.xs) = true ∧ allB q.sums.xs (widthN ts q.src.xs) = true := by
    unfold restB at p6
    simp only [Bool.and_eq_true] at p6
    exact ⟨p6.1.1.1.1.1.1.2, p6.1.1.1.1.1.2⟩
  have hsmall : ∀ r ∈ combosN q.src.xs db, ∀ v ∈ r, smallI v := combos_small hdd.1.2 q.src.xs
  have hrow : ∀ t, ∀ r ∈ tabN db t, r.length ≤ 100 := fun t r hr => by
    obtain ⟨h1, h2⟩ := tabN_fit hdd.1.2 t r hr
    have := (cols_of p1 (i := t.toNat) (by omega)).2
    omega
  have hlen : ∀ t, (tabN db t).length ≤ 1000000 := fun t => by
    rw [tabN_len]
    have := dbB_len hdd.1.2 t.toNat
    omega
  have hb0 := below_alloc w (.cells q.cells 26)
  have hc1 := checkQ_any co cc ts q _ (hts.below hb0) (hq.below hb0) hkc hoc
  rw [hchk] at hc1
  obtain ⟨w0, hw0⟩ : ∃ w0, w.alloc (.cells q.cells 26) = w0 := ⟨_, rfl⟩
  have HX : Hid (w0.cell? ⟨w.heap.size, 0, none⟩ = some q.src.val ∧ w0.cell? ⟨w.heap.size, 1, none⟩ = some (.slice q.wad q.wh.length q.wcap) ∧ w0.cell? ⟨w.heap.size, 2, none⟩ = some (.bool q.group) ∧ w0.cell? ⟨w.heap.size, 3, none⟩ = some q.keys.val ∧ w0.cell? ⟨w.heap.size, 4, none⟩ = some q.sums.val ∧ w0.cell? ⟨w.heap.size, 5, none⟩ = some q.sel.val ∧ w0.cell? ⟨w.heap.size, 6, none⟩ = some q.ord.val) := by
    rw [← hw0]; unfold QueryV.cells; refine ⟨?_, ?_, ?_, ?_, ?_, ?_, ?_⟩ <;> simp
  rw [hw0] at hc1 hb0
  have hcd := fun (x : World) (hb : Below w.heap.size w x) => checkData_any co cc ts q d dcap db x (hts.below hb) (IntsAt.below hb hq.src) (hdb.1.below hb) p3 hf.1
  rw [if_pos hdat] at hcd
  have han := fun (x : World) (hb : Below w.heap.size w x) => answerG_any q d dcap db x hg ho (hq.below hb) (hdb.below hb) p4 hf.1 hsc (by rw [hdd.1.1]; exact p3) hrow hlen (fun r hr i hi k hk => by rw [hcl r hr]; exact clause_conds p5 hi hk) hf.2.2.2.1 hf.2.2.2.2.1 (by have := hdd.2; omega) (fun r hr => by rw [hcl r hr]; exact hkey.1) (fun r hr => by rw [hcl r hr]; exact hkey.2) hsmall
  have hrl : ((groupsN q.keys.xs q.sums.xs ((combosN q.src.xs db).filter (holdsB q.wh))).map Gr.row).length ≤ 1000000 := by
    rw [List.length_map]
    have := List.length_filter_le (holdsB q.wh) (combosN q.src.xs db)
    have := hdd.2
    have := groupsN_len q.keys.xs q.sums.xs ((combosN q.src.xs db).filter (holdsB q.wh))
    omega
  have HRL : Hid _ := hrl
  have HCD : Hid _ := hcd
  have HAN : Hid _ := han
  have HB0 : Hid _ := hb0
  have HW0 : Hid _ := hw0
  clear hcd han hrl hb0 hw0 hts hq hkc hoc hsc hdb hchk hdat p1 p2 p3 p4 p5 p6 hf hdd hcl hcc hkey hsmall hrow hlen
  generalize (groupsN q.keys.xs q.sums.xs ((combosN q.src.xs db).filter (holdsB q.wh))).map Gr.row = rows at *
  obtain ⟨⟨sad, scap, sxs⟩, wad, wcap, wh, group, keys, sums, ⟨lad, lcap, lxs⟩, ⟨oad, ocap, oxs⟩⟩ := q
  unfold QueryV.cells IntsV.val at *
  simp only at *
  subst ho
  subst hg
  obtain ⟨c0, c1, c2, c3, c4, c5, c6⟩ := HX.out
  simp only [List.length_nil] at *
  go_enter Try.func17, Try.ntmps17
  go_wp2_with fail
  rw [HW0.out]
  refine hc1.mono ?_
  rintro e w1 ⟨rfl, hb1⟩
  have hbw1 : Below w.heap.size w w1 := HB0.out.trans (hb1.mono HB0.out.size)
  have d0 := cell_below hb1 c0
  have d1 := cell_below hb1 c1
  have d2 := cell_below hb1 c2
  have d3 := cell_below hb1 c3
  have d4 := cell_below hb1 c4
  have d5 := cell_below hb1 c5
  have d6 := cell_below hb1 c6
  have hcd := HCD.out w1 hbw1
  clear hc1 c0 c1 c2 c3 c4 c5 c6
  go_wp2_with fail
  refine Calls.mono hcd ?_
  rintro e w2 ⟨rfl, hb2⟩
  have hbw2 : Below w.heap.size w w2 := hbw1.trans (hb2.mono hbw1.size)
  have e0 := cell_below hb2 d0
  have e1 := cell_below hb2 d1
  have e2 := cell_below hb2 d2
  have e3 := cell_below hb2 d3
  have e4 := cell_below hb2 d4
  have e5 := cell_below hb2 d5
  have e6 := cell_below hb2 d6
  have han := HAN.out w2 hbw2
  clear hcd d0 d1 d2 d3 d4 d5 d6
  go_wp2_with fail
  refine Calls.mono han ?_
  rintro e w3 ⟨v, rfl, hsv, hb3⟩
  have hbw3 : Below w.heap.size w w3 := hbw2.trans (hb3.mono hbw2.size)
  obtain ⟨g3, lb3, rfl, eg3, hs3⟩ := hsv
  have hga := gather_any (ownEl 3) (fun _ => rfl) g3 lb3 rows w3 w3 (Below.refl _ _) HRL.out hs3 eg3
  clear han e0 e1 e2 e3 e4 e5 e6 hs3 eg3
  go_wp2_with fail
  refine hga.mono ?_
  rintro e w4 ⟨v4, ys, o4, rfl, hys, hG4⟩
  obtain ⟨va, vn, vc, rfl⟩ := ownsRow_slice hG4.own
  clear hga
  go_wp2
  go_ret2
  exact ⟨_, ys, o4, w3, rfl, hys, hG4, hbw3⟩

end Go.Proofs.Ytlpbelhfpoilpaa

namespace Go.Scout
open Go.RowKit

theorem allocs_heap : ∀ (os : List Obj) (w : World) (i : Nat) (hi : i < os.length), (os.foldl World.alloc w).heap[w.heap.size + i]? = some os[i]
  | [], _, i, hi => by simp at hi
  | o :: os, w, 0, _ => by
    rw [List.foldl_cons]
    have hb : ∀ (os : List Obj) (v : World), Below v.heap.size v (os.foldl World.alloc v) := by
      intro os
      induction os with
      | nil => intro v; exact Below.refl _ _
      | cons o os ih => intro v; rw [List.foldl_cons]; exact (below_alloc v o).trans ((ih _).mono (below_alloc v o).size)
    exact ((hb os (w.alloc o)).block w.heap.size (by simp)).trans (heap_alloc_new w o)
  | o :: os, w, i + 1, hi => by
    rw [List.foldl_cons]
    have h := allocs_heap os (w.alloc o) i (by simpa using hi)
    rw [World.size_alloc] at h
    rw [show w.heap.size + (i + 1) = w.heap.size + 1 + i by omega, h]
    rfl

theorem allocs_below : ∀ (os : List Obj) (v : World), Below v.heap.size v (os.foldl World.alloc v) := by
  intro os
  induction os with
  | nil => intro v; exact Below.refl _ _
  | cons o os ih => intro v; rw [List.foldl_cons]; exact (below_alloc v o).trans ((ih _).mono (below_alloc v o).size)

def aliveQ (n : Nat) : QueryV := (⟨⟨some ⟨n + 1, 0, none⟩, 1, [0]⟩, none, 0, [], true, ⟨none, 0, []⟩, ⟨some ⟨n + 1 + 1, 0, none⟩, 1, [0]⟩, ⟨none, 0, []⟩, ⟨none, 0, []⟩⟩ : QueryV)
def aliveDB (n : Nat) : List RowsV := [(⟨some ⟨n + 1 + 1 + 1 + 1 + 1 + 1 + 1 + 1, 0, none⟩, 4, [⟨some ⟨n + 1 + 1 + 1 + 1, 0, none⟩, 1, [4]⟩, ⟨some ⟨n + 1 + 1 + 1 + 1 + 1, 0, none⟩, 1, [3]⟩, ⟨some ⟨n + 1 + 1 + 1 + 1 + 1 + 1, 0, none⟩, 1, [3]⟩, ⟨some ⟨n + 1 + 1 + 1 + 1 + 1 + 1 + 1, 0, none⟩, 1, [1073741824]⟩]⟩ : RowsV)]
def aliveTS : List TableD := [⟨1, 10, 10, 0, 0, 0⟩]

theorem alive_check (n : Nat) : (aliveQ n).check aliveTS = 0 := rfl
theorem alive_data (n : Nat) : dataB aliveTS (aliveQ n).src.xs (aliveDB n) = true := rfl
theorem alive_rows (n : Nat) : (groupsN (aliveQ n).keys.xs (aliveQ n).sums.xs ((combosN (aliveQ n).src.xs (aliveDB n)).filter (holdsB (aliveQ n).wh))).map Gr.row = [[4, 10]] := rfl

end Go.Scout
namespace Go.Proofs.Ytlpbelhfpoilpaa
open Go.RowKit Go.Scout

theorem one_int {W : World} {b : Nat} {x : Int} {t : TypeId} (h : W.heap[b]? = some (.cells #[.int .i64 x] t)) (hl : b < W.heap.size) : rowEl.At ⟨some ⟨b, 0, none⟩, 1, [x]⟩ W := by
  refine ⟨⟨by simp, fun i hi => ⟨b, 0, rfl, ?_⟩⟩, fun a ha => by cases ha; exact hl, fun e => by cases e⟩
  match i, hi with
  | 0, _ => exact cells_cell h rfl

def aliveO (n : Nat) : List Obj := [(.cells #[.int .i64 1, .int .i64 10, .int .i64 10, .int .i64 0, .int .i64 0, .int .i64 0] 60), (.cells #[.int .i64 0] 3), (.cells #[.int .i64 0] 3), (.cells #[.slice (some ⟨n + 1, 0, none⟩) 1 1, .slice none 0 0, .bool true, .slice none 0 0, .slice (some ⟨n + 1 + 1, 0, none⟩) 1 1, .slice none 0 0, .slice none 0 0] 26), (.cells #[.int .i64 4] 3), (.cells #[.int .i64 3] 3), (.cells #[.int .i64 3] 3), (.cells #[.int .i64 1073741824] 3), (.cells #[.slice (some ⟨n + 1 + 1 + 1 + 1, 0, none⟩) 1 1, .slice (some ⟨n + 1 + 1 + 1 + 1 + 1, 0, none⟩) 1 1, .slice (some ⟨n + 1 + 1 + 1 + 1 + 1 + 1, 0, none⟩) 1 1, .slice (some ⟨n + 1 + 1 + 1 + 1 + 1 + 1 + 1, 0, none⟩) 1 1] 23), (.cells #[.slice (some ⟨n + 1 + 1 + 1 + 1 + 1 + 1 + 1 + 1, 0, none⟩) 4 4] 53)]

theorem alive_at (w : World) : TablesAt ((aliveO w.heap.size).foldl World.alloc w) (some ⟨w.heap.size, 0, none⟩) aliveTS ∧ (aliveQ w.heap.size).At ((aliveO w.heap.size).foldl World.alloc w) ∧ DbHad ((aliveO w.heap.size).foldl World.alloc w) (some ⟨w.heap.size + 1 + 1 + 1 + 1 + 1 + 1 + 1 + 1 + 1, 0, none⟩) (aliveDB w.heap.size) := by
  have hh := allocs_heap (aliveO w.heap.size) w
  have hb := (allocs_below (aliveO w.heap.size) w).size
  have h0 := hh 0 (by simp [aliveO])
  have h1 := hh 1 (by simp [aliveO])
  have h2 := hh 2 (by simp [aliveO])
  have h4 := hh 4 (by simp [aliveO])
  have h5 := hh 5 (by simp [aliveO])
  have h6 := hh 6 (by simp [aliveO])
  have h7 := hh 7 (by simp [aliveO])
  have h8 := hh 8 (by simp [aliveO])
  have h9 := hh 9 (by simp [aliveO])
  generalize (aliveO w.heap.size).foldl World.alloc w = V at *
  have lt : ∀ {i : Nat} {o : Obj}, V.heap[w.heap.size + i]? = some o → w.heap.size + i < V.heap.size := fun h => (Array.getElem?_eq_some_iff.1 h).1
  have k1 := one_int h1 (lt h1)
  have k2 := one_int h2 (lt h2)
  have k4 := one_int h4 (lt h4)
  have k5 := one_int h5 (lt h5)
  have k6 := one_int h6 (lt h6)
  have k7 := one_int h7 (lt h7)
  have hrs : RowsHad V (some ⟨w.heap.size + 8, 0, none⟩) [⟨some ⟨w.heap.size + 4, 0, none⟩, 1, [4]⟩, ⟨some ⟨w.heap.size + 5, 0, none⟩, 1, [3]⟩, ⟨some ⟨w.heap.size + 6, 0, none⟩, 1, [3]⟩, ⟨some ⟨w.heap.size + 7, 0, none⟩, 1, [1073741824]⟩] := by
    refine ⟨⟨by simp, fun i hi => ⟨w.heap.size + 8, 0, rfl, ?_⟩, fun i hi => ?_⟩, fun a ha => by cases ha; exact lt h8, fun i hi => ?_⟩
    · match i, hi with
      | 0, _ => exact cells_cell h8 rfl
      | 1, _ => exact cells_cell h8 rfl
      | 2, _ => exact cells_cell h8 rfl
      | 3, _ => exact cells_cell h8 rfl
    · match i, hi with
      | 0, _ => exact k4.1
      | 1, _ => exact k5.1
      | 2, _ => exact k6.1
      | 3, _ => exact k7.1
    · match i, hi with
      | 0, _ => exact k4
      | 1, _ => exact k5
      | 2, _ => exact k6
      | 3, _ => exact k7
  have hnil : ∀ W : World, IntsAt W none [] := fun W => ⟨by simp, fun i hi => by simp at hi⟩
  refine ⟨⟨by simp [aliveTS], fun i hi => ⟨w.heap.size, 0, rfl, ?_⟩⟩, ⟨k1.1, ⟨by simp [aliveQ], fun i hi => by simp [aliveQ] at hi, fun i hi => by simp [aliveQ] at hi⟩, hnil V, k2.1, hnil V, hnil V⟩, ⟨⟨by simp [aliveDB], fun i hi => ⟨w.heap.size + 9, 0, rfl, ?_⟩, fun i hi => ?_⟩, fun i hi => ?_⟩⟩
  · match i, hi with
    | 0, _ => exact ⟨cells_cell h0 rfl, cells_cell h0 rfl, cells_cell h0 rfl, cells_cell h0 rfl, cells_cell h0 rfl, cells_cell h0 rfl⟩
  · match i, hi with
    | 0, _ => exact cells_cell h9 rfl
  · match i, hi with
    | 0, _ => exact hrs.1
  · match i, hi with
    | 0, _ => exact hrs

set_option maxRecDepth 20000 in
set_option maxHeartbeats 8000000 in
theorem alive_any (w : World) : Calls Try.prog 16 #[] w fun e w' => e = .returned (.bool true) ∧ Below w.heap.size w w' := by
  obtain ⟨a1, a2, a3⟩ := alive_at w
  have hev := evalG_any (some ⟨w.heap.size, 0, none⟩) (some ⟨w.heap.size + 1 + 1 + 1 + 1 + 1 + 1 + 1 + 1 + 1, 0, none⟩) 1 1 aliveTS (aliveQ w.heap.size) (aliveDB w.heap.size) _ a1 a2 (Nat.le_refl _) (Nat.le_refl _) (Nat.le_refl _) a3 rfl rfl (alive_check _) (alive_data _)
  rw [alive_rows] at hev
  have hbV := allocs_below (aliveO w.heap.size) w
  have HBV : Hid _ := hbV
  clear a1 a2 a3 hbV
  have hev' : Calls Try.prog 17 #[.slice (some ⟨w.heap.size, 0, none⟩) 1 1, .agg #[.slice (some ⟨w.heap.size + 1, 0, none⟩) 1 1, .slice none 0 0, .bool true, .slice none 0 0, .slice (some ⟨w.heap.size + 1 + 1, 0, none⟩) 1 1, .slice none 0 0, .slice none 0 0], .slice (some ⟨w.heap.size + 1 + 1 + 1 + 1 + 1 + 1 + 1 + 1 + 1, 0, none⟩) 1 1] (((((((((((w).alloc (.cells #[.int .i64 1, .int .i64 10, .int .i64 10, .int .i64 0, .int .i64 0, .int .i64 0] 60)).alloc (.cells #[.int .i64 0] 3)).alloc (.cells #[.int .i64 0] 3)).alloc (.cells #[.slice (some ⟨w.heap.size + 1, 0, none⟩) 1 1, .slice none 0 0, .bool true, .slice none 0 0, .slice (some ⟨w.heap.size + 1 + 1, 0, none⟩) 1 1, .slice none 0 0, .slice none 0 0] 26)).alloc (.cells #[.int .i64 4] 3)).alloc (.cells #[.int .i64 3] 3)).alloc (.cells #[.int .i64 3] 3)).alloc (.cells #[.int .i64 1073741824] 3)).alloc (.cells #[.slice (some ⟨w.heap.size + 1 + 1 + 1 + 1, 0, none⟩) 1 1, .slice (some ⟨w.heap.size + 1 + 1 + 1 + 1 + 1, 0, none⟩) 1 1, .slice (some ⟨w.heap.size + 1 + 1 + 1 + 1 + 1 + 1, 0, none⟩) 1 1, .slice (some ⟨w.heap.size + 1 + 1 + 1 + 1 + 1 + 1 + 1, 0, none⟩) 1 1] 23)).alloc (.cells #[.slice (some ⟨w.heap.size + 1 + 1 + 1 + 1 + 1 + 1 + 1 + 1, 0, none⟩) 4 4] 53)) _ := hev
  clear hev
  go_enter Try.func16, Try.ntmps16
  go_wp2_with fail
  refine hev'.mono ?_
  rintro e w2 ⟨v, ys, o, w1, rfl, hys, hG, hb1⟩
  clear hev'
  have hy1 : ys.length = 1 := by
    have := congrArg List.length hys
    simpa using this
  obtain ⟨y, rfl⟩ := List.length_eq_one_iff.1 hy1
  clear hy1
  have hyx : y.xs = [4, 10] := by
    have : [y.xs] = [[4, 10]] := hys
    injection this
  obtain ⟨g, cap, rfl, hc⟩ := ownsRow_cell hG.own (i := 0) (by simp)
  have hyA := (hG.at' y (by simp)).1.1
  obtain ⟨yad, ycap, yxs⟩ := y
  simp only at hyx
  subst hyx
  obtain ⟨b, off, rfl, hcs⟩ := IntsAt.get hyA (i := 0) (by simp)
  have q0 := hcs 0 (by simp)
  have q1 := hcs 1 (by simp)
  have hc' : w2.cell? ⟨g, 0, none⟩ = some (.slice (some ⟨b, off, none⟩) 2 ycap) := hc
  have q0' : w2.cell? ⟨b, off, none⟩ = some (.int .i64 4) := q0
  have q1' : w2.cell? ⟨b, off + 1, none⟩ = some (.int .i64 10) := q1
  have hbf : Below w.heap.size w w2 := HBV.out.trans ((hb1.trans (hG.below.mono hb1.size)).mono HBV.out.size)
  have HBF : Hid _ := hbf
  clear hbf hc q0 q1 hcs hyA hG hb1 hys
  simp only [List.length_cons, List.length_nil, Nat.reduceAdd]
  go_wp2
  go_ret
  exact ⟨rfl, HBF.out⟩

end Go.Proofs.Ytlpbelhfpoilpaa

namespace Go.Scout
open Go.RowKit

def pickI (c n : Int) : Int := Int.tmod (if c < 0 then -(c + 1) else c) n
theorem pickI_range {c n : Int} (hn : 0 < n) : 0 ≤ pickI c n ∧ pickI c n < n := by
  unfold pickI
  have h : 0 ≤ (if c < 0 then -(c + 1) else c) := by split <;> omega
  exact ⟨Int.tmod_nonneg _ h, Int.tmod_lt_of_pos _ hn⟩

theorem cell_keep0 {A B : World} {p : Addr} {v : Value} (h : A.cell? p = some v) (hk : Kept (fun _ => True) A B) : B.cell? p = some v :=
  (World.cell?_of_block (hk.block _ (cell_lt h) trivial)).trans h

theorem cell_keepN {A B : World} {p : Addr} {v : Value} {n : Nat} (h : A.cell? p = some v) (hk : Kept (fun b => b ≠ n) A B) (hp : p.block ≠ n) : B.cell? p = some v :=
  (World.cell?_of_block (hk.block _ (cell_lt h) hp)).trans h

/-- A maker of cases, and the numbers that it takes. -/
structure MakerAt (mb : Nat) (lo : Option Addr) (lc : Nat) (l : List Int) (W : World) : Prop where
  num : ∃ k : Nat, k ≤ l.length ∧ W.cell? ⟨mb, 1, none⟩ = some (.int .i64 k)
  lst : W.cell? ⟨mb, 0, none⟩ = some (.slice lo l.length lc)
  thaw : W.frozen? ⟨mb, 1, none⟩ = false
  ints : IntsAt W lo l
  off : ∀ a, lo = some a → a.block ≠ mb

theorem MakerAt.keep {mb : Nat} {lo : Option Addr} {lc : Nat} {l : List Int} {A B : World} (h : MakerAt mb lo lc l A) (hk : Kept (fun _ => True) A B) : MakerAt mb lo lc l B := by
  obtain ⟨k, hk1, hk2⟩ := h.num
  exact ⟨⟨k, hk1, cell_keep0 hk2 hk⟩, cell_keep0 h.lst hk, (World.frozen?_of_block (a := ⟨mb, 1, none⟩) (hk.block mb (cell_lt (p := ⟨mb, 0, none⟩) h.lst) trivial)).trans h.thaw, ⟨h.ints.1, h.ints.2.keep fun a ha hlt => hk.block _ hlt trivial⟩, h.off⟩

theorem Kept.drewN {s : Nat → Prop} (W : World) (n : Nat) : Kept s W (W.drewN n) := Kept.of_below (below_drewN (Below.refl W.heap.size W) n) (fun _ hb _ => hb)

theorem MakerAt.more {mb : Nat} {lo : Option Addr} {lc : Nat} {l : List Int} {A : World} (h : MakerAt mb lo lc l A) {k : Nat} (hk : k ≤ l.length) : MakerAt mb lo lc l (A.setCell ⟨mb, 1, none⟩ (.int .i64 k)) := by
  obtain ⟨k0, _, hk2⟩ := h.num
  have hkk : Kept (fun b => b ≠ mb) A (A.setCell ⟨mb, 1, none⟩ (.int .i64 k)) := ⟨rfl, rfl, rfl, by simp [World.setCell], fun b _ hb => Below.heap_setCell A _ _ b hb⟩
  refine ⟨⟨k, hk, World.cell?_setCell_same' _ _ _ (by rw [hk2]; rfl)⟩, ?_, by rw [World.frozen?_setCell]; exact h.thaw, ⟨h.ints.1, h.ints.2.keep fun a ha hlt => hkk.block _ hlt (h.off a ha)⟩, h.off⟩
  exact (World.cell?_setCell_other A ⟨mb, 1, none⟩ ⟨mb, 0, none⟩ (.int .i64 k) (fun e => by cases e)).trans h.lst

end Go.Scout
namespace Go.Proofs.Ytlpbelhfpoilpaa
open Go.RowKit Go.Scout

set_option maxRecDepth 20000 in
set_option maxHeartbeats 4000000 in
theorem pick1_any (c n : Int) (w : World) (hn : 0 < n) (hc : -9223372036854775808 ≤ c ∧ c ≤ 9223372036854775807) :
    Calls Try.prog 13 #[.int .i64 c, .int .i64 n] w fun e w' => e = .returned (.int .i64 (pickI c n)) ∧ w' = w := by
  have hn0 : ¬ n = 0 := by omega
  by_cases h0 : c < 0
  · have hw1 : wrap64 (c + 1) = c + 1 := by unfold wrap64; omega
    have hw2 : wrap64 (-(c + 1)) = -(c + 1) := by unfold wrap64; omega
    have hR : pickI c n = -((c + 1).tmod n) := by unfold pickI; rw [if_pos h0, Int.neg_tmod]
    rw [hR]
    clear hR
    go_enter Try.func13, Try.ntmps13
    go_wp2
    go_ret
    exact ⟨rfl, rfl⟩
  · have hR : pickI c n = c % n := by unfold pickI; rw [if_neg h0, Int.tmod_eq_emod_of_nonneg (by omega)]
    rw [hR]
    clear hR
    go_enter Try.func13, Try.ntmps13
    go_wp2
    go_ret
    exact ⟨rfl, rfl⟩

set_option maxRecDepth 20000 in
set_option maxHeartbeats 8000000 in
theorem next_any (mb : Nat) (lo : Option Addr) (lc : Nat) (l : List Int) (n : Int) (W : World) (hm : MakerAt mb lo lc l W) (hn : 0 < n) (hl : ∀ x ∈ l, -9223372036854775808 ≤ x ∧ x ≤ 9223372036854775807) :
    Calls Try.prog 34 #[.pointer (some ⟨mb, 0, none⟩), .int .i64 n] W fun e W' => ∃ k : Int, e = .returned (.int .i64 k) ∧ 0 ≤ k ∧ k < n ∧ MakerAt mb lo lc l W' ∧ Kept (fun b => b ≠ mb) W W' := by
  obtain ⟨k, hk, hck⟩ := hm.num
  have hcl := hm.lst
  have hth := hm.thaw
  have hlen := hm.ints.1
  have HM : Hid _ := hm
  have HL : Hid _ := hl
  clear hm hl
  by_cases hlt : k < l.length
  · have hge : ¬ (k : Int) ≥ (l.length : Int) := by omega
    obtain ⟨b, off, rfl, hcs⟩ := HM.out.ints.get hlt
    have hcx := hcs k hlt
    have hxr := HL.out l[k] (List.getElem_mem hlt)
    have e1 : l.getD k 0 = l[k] := by simp [List.getD, hlt]
    rw [e1] at hcx
    generalize l[k] = x at *
    have hbm : b ≠ mb := HM.out.off _ rfl
    clear hcs e1
    go_enter Try.func34, Try.ntmps34
    go_wp2
    go_quiet (fail)
    go_wp2
    have hM1 := MakerAt.more (MakerAt.keep HM.out (Kept.drewN W nq)) (k := k + 1) (by omega)
    have hk1 : Kept (fun b => b ≠ mb) W ((W.drewN nq).setCell ⟨mb, 1, none⟩ (.int .i64 ((k + 1 : Nat) : Int))) := (Kept.drewN W nq).trans ⟨rfl, rfl, rfl, by simp [World.setCell], fun b _ hb => Below.heap_setCell _ _ _ b hb⟩
    have hcx1 : ((W.drewN nq).setCell ⟨mb, 1, none⟩ (.int .i64 ((k + 1 : Nat) : Int))).cell? ⟨b, off + k, none⟩ = some (.int .i64 x) := cell_keepN hcx hk1 hbm
    obtain ⟨W2, hW2⟩ : ∃ W2, (W.drewN nq).setCell ⟨mb, 1, none⟩ (.int .i64 ((k + 1 : Nat) : Int)) = W2 := ⟨_, rfl⟩
    have hW3 : (W.drewN nq).setCell ⟨mb, 1, none⟩ (.int .i64 ((k : Int) + 1)) = W2 := hW2
    rw [hW2] at hM1 hk1 hcx1
    rw [hW3]
    obtain ⟨k2, _, hck2⟩ := hM1.num
    have hk2 : W2.cell? ⟨mb, 1, none⟩ = some (.int .i64 ((k : Int) + 1)) := by
      rw [← hW2]
      exact World.cell?_setCell_same' _ _ _ (by rw [cell_keep0 hck (Kept.drewN W nq)]; rfl)
    have hcl2 := hM1.lst
    have HM1 : Hid _ := hM1
    have HK1 : Hid _ := hk1
    clear hM1 hk1 hW2 hW3 hck2 hck hcl hcx HM
    have hpk := fun W => pick1_any x n W hn hxr
    go_quiet ((go_at_call 13; exact Calls.quiet_of_same (hpk _)))
    go_wp2
    go_ret
    have hr := pickI_range (c := x) hn
    exact ⟨_, rfl, hr.1, hr.2, MakerAt.keep HM1.out (Kept.drewN _ _), HK1.out.trans (Kept.drewN _ _)⟩
  · have hge : (k : Int) ≥ (l.length : Int) := by omega
    go_enter Try.func34, Try.ntmps34
    go_wp2
    go_quiet (fail)
    go_wp2
    go_ret
    exact ⟨0, rfl, by omega, hn, MakerAt.keep HM.out (Kept.drewN _ _), Kept.drewN _ _⟩

end Go.Proofs.Ytlpbelhfpoilpaa

namespace Go.Scout
open Go.RowKit

def tabA : Array Value := #[.int .i64 0, .int .i64 1, .int .i64 7, .int .i64 20, .int .i64 100, .int .i64 5000, .int .i64 1000000]
def kindA : Array Value := #[.int .i64 1, .int .i64 2, .int .i64 5, .int .i64 10, .int .i64 1000000]
theorem tabA_at {r : Nat} (h : r < 7) : ∃ x : Int, tabA[r]? = some (.int .i64 x) ∧ 0 ≤ x ∧ x ≤ 1000000 := by
  match r, h with
  | 0, _ => exact ⟨0, rfl, by omega, by omega⟩
  | 1, _ => exact ⟨1, rfl, by omega, by omega⟩
  | 2, _ => exact ⟨7, rfl, by omega, by omega⟩
  | 3, _ => exact ⟨20, rfl, by omega, by omega⟩
  | 4, _ => exact ⟨100, rfl, by omega, by omega⟩
  | 5, _ => exact ⟨5000, rfl, by omega, by omega⟩
  | 6, _ => exact ⟨1000000, rfl, by omega, by omega⟩
theorem kindA_at {r : Nat} (h : r < 5) : ∃ x : Int, kindA[r]? = some (.int .i64 x) ∧ 1 ≤ x ∧ x ≤ 1000000 := by
  match r, h with
  | 0, _ => exact ⟨1, rfl, by omega, by omega⟩
  | 1, _ => exact ⟨2, rfl, by omega, by omega⟩
  | 2, _ => exact ⟨5, rfl, by omega, by omega⟩
  | 3, _ => exact ⟨10, rfl, by omega, by omega⟩
  | 4, _ => exact ⟨1000000, rfl, by omega, by omega⟩

theorem GB.alloc (w : World) (c : Array Value) (t : TypeId) : GB (w.alloc (.cells c t)) w.heap.size t c := heap_alloc_new w _
theorem GB.keep {w w' : World} {G : Nat} {t : TypeId} {c : Array Value} {s : Nat → Prop} (h : GB w G t c) (hk : Kept s w w') (hs : s G) : GB w' G t c := h.of (hk.block G h.lt hs)
theorem MakerAt.lt {mb : Nat} {lo : Option Addr} {lc : Nat} {l : List Int} {A : World} (h : MakerAt mb lo lc l A) : mb < A.heap.size := cell_lt (p := ⟨mb, 0, none⟩) h.lst
theorem MakerAt.alloc {mb : Nat} {lo : Option Addr} {lc : Nat} {l : List Int} {A : World} (h : MakerAt mb lo lc l A) (o : Obj) : MakerAt mb lo lc l (A.alloc o) := h.keep (Kept.alloc _ _)
/-- A store into a block that the maker does not lean on. -/
theorem MakerAt.set {mb : Nat} {lo : Option Addr} {lc : Nat} {l : List Int} {A : World} (h : MakerAt mb lo lc l A) {G i : Nat} (v : Value) (h1 : G ≠ mb) (h2 : ∀ a, lo = some a → a.block ≠ G) : MakerAt mb lo lc l (A.setCell ⟨G, i, none⟩ v) := by
  have hk : Kept (fun b => b ≠ G) A (A.setCell ⟨G, i, none⟩ v) := Kept.setCell _ _ _ (fun h => h rfl)
  obtain ⟨k, hk1, hk2⟩ := h.num
  exact ⟨⟨k, hk1, cell_keepN hk2 hk (Ne.symm h1)⟩, cell_keepN h.lst hk (Ne.symm h1), (World.frozen?_of_block (a := ⟨mb, 1, none⟩) (hk.block mb h.lt (Ne.symm h1))).trans h.thaw, ⟨h.ints.1, h.ints.2.keep fun a ha hlt => hk.block _ hlt (h2 a ha)⟩, h.off⟩

theorem Kept.set_new {s : Nat → Prop} {A B : World} (h : Kept s A B) {G i : Nat} (hG : A.heap.size ≤ G) (v : Value) : Kept s A (B.setCell ⟨G, i, none⟩ v) :=
  ⟨h.os, h.tape, h.output, by have := h.size; simp [World.setCell]; omega, fun k hk hs => (Below.heap_setCell B _ _ k (by show k ≠ G; omega)).trans (h.block k hk hs)⟩

/-- A table as it is made: the kinds of its first k columns are there. -/
structure TabOk (t : TableD) (k : Nat) : Prop where
  c1 : 1 ≤ t.cols
  c3 : t.cols ≤ 3
  r0 : 0 ≤ t.rows
  r1 : t.rows ≤ 1000000
  kd : ∀ m, m < k → 1 ≤ t.kd m ∧ t.kd m ≤ 1000000

end Go.Scout
namespace Go.Proofs.Ytlpbelhfpoilpaa
open Go.RowKit Go.Scout

set_option maxRecDepth 20000 in
set_option maxHeartbeats 8000000 in
theorem table_any (mb : Nat) (lo : Option Addr) (lc : Nat) (l : List Int) (W : World) (hm : MakerAt mb lo lc l W) (hl : ∀ x ∈ l, -9223372036854775808 ≤ x ∧ x ≤ 9223372036854775807) (hlo : ∀ a, lo = some a → a.block < W.heap.size) :
    Calls Try.prog 35 #[.pointer (some ⟨mb, 0, none⟩)] W fun e W' => ∃ t : TableD, e = .returned (.agg t.vals) ∧ TabOk t t.cols.toNat ∧ MakerAt mb lo lc l W' ∧ Kept (fun b => b ≠ mb) W W' := by
  have hmb := hm.lt
  have hM1 := hm.alloc (.cells tz.vals 60)
  have hG1 := GB.alloc W tz.vals 60
  have hk1 : Kept (fun b => b ≠ mb) W (W.alloc (.cells tz.vals 60)) := Kept.alloc _ _
  obtain ⟨W1, hW1⟩ : ∃ W1, W.alloc (.cells tz.vals 60) = W1 := ⟨_, rfl⟩
  rw [hW1] at hM1 hG1 hk1
  have hs1 : W1.heap.size = W.heap.size + 1 := by rw [← hW1]; simp
  have hn1 := next_any mb lo lc l 3 W1 hM1 (by omega) hl
  have hW1' : W.alloc (.cells #[.int .i64 0, .int .i64 0, .int .i64 0, .int .i64 0, .int .i64 0, .int .i64 0] 60) = W1 := hW1
  have HL : Hid _ := hl
  have HLO : Hid _ := hlo
  clear hl hlo hM1 hm hW1
  have HS1 : Hid _ := hs1
  clear hs1
  go_enter Try.func35, Try.ntmps35
  go_wp2_with fail
  refine hn1.mono ?_
  rintro e W2 ⟨r1, rfl, hr1, hr1', hM2, hk2⟩
  clear hW1' hn1
  have hkW2 : Kept (fun b => b ≠ mb) W W2 := hk1.trans hk2
  have hra : W.heap.size ≠ mb := by omega
  have hG2 : GB W2 W.heap.size 60 tz.vals := hG1.keep hk2 hra
  have hw1 : wrap64 (1 + r1) = 1 + r1 := by unfold wrap64; omega
  have hs2 := hk2.size
  have hM3 := (hM2.alloc (.cells #[.int .i64 (1 + r1), .int .i64 0, .int .i64 0, .int .i64 0, .int .i64 0, .int .i64 0] 60)).alloc (.cells tabA 3)
  have hn2 := next_any mb lo lc l 7 _ hM3 (by omega) HL.out
  have hG3 : GB ((W2.alloc (.cells #[.int .i64 (1 + r1), .int .i64 0, .int .i64 0, .int .i64 0, .int .i64 0, .int .i64 0] 60)).alloc (.cells tabA 3)) W2.heap.size 60 #[.int .i64 (1 + r1), .int .i64 0, .int .i64 0, .int .i64 0, .int .i64 0, .int .i64 0] :=
    (GB.alloc _ _ _).keep (Kept.alloc (s := fun _ => True) _ _) trivial
  have hG3' : GB ((W2.alloc (.cells #[.int .i64 (1 + r1), .int .i64 0, .int .i64 0, .int .i64 0, .int .i64 0, .int .i64 0] 60)).alloc (.cells tabA 3)) (W2.heap.size + 1) 3 tabA := by
    have := GB.alloc (W2.alloc (.cells #[.int .i64 (1 + r1), .int .i64 0, .int .i64 0, .int .i64 0, .int .i64 0, .int .i64 0] 60)) tabA 3
    rwa [World.size_alloc] at this
  have hk3 : ∀ s, Kept s W2 ((W2.alloc (.cells #[.int .i64 (1 + r1), .int .i64 0, .int .i64 0, .int .i64 0, .int .i64 0, .int .i64 0] 60)).alloc (.cells tabA 3)) := fun s => (Kept.alloc _ _).trans (Kept.alloc _ _)
  have hG2' := hG2.keep (hk3 (fun _ => True)) trivial
  have hmb2 := hM2.lt
  have HM2 : Hid _ := hM2
  obtain ⟨W3, hW3⟩ : ∃ W3, (W2.alloc (.cells #[.int .i64 (1 + r1), .int .i64 0, .int .i64 0, .int .i64 0, .int .i64 0, .int .i64 0] 60)).alloc (.cells tabA 3) = W3 := ⟨_, rfl⟩
  rw [hW3] at hn2 hG3 hG3' hG2' hk3
  unfold tabA at hW3
  clear hM2 hM3 hG1 hG2 hk1
  go_wp2_with fail
  refine hn2.mono ?_
  rintro e W4 ⟨r2, rfl, hr2, hr2', hM4, hk4⟩
  clear hW3 hn2
  obtain ⟨rn, rfl⟩ : ∃ rn : Nat, r2 = (rn : Int) := ⟨r2.toNat, by omega⟩
  have hrn : rn < 7 := by omega
  have htb : W2.heap.size ≠ mb := by omega
  have hG4 := hG3.keep hk4 htb
  have hG4' := hG3'.keep hk4 (show W2.heap.size + 1 ≠ mb by omega)
  have hGr := hG2'.keep hk4 hra
  have hkW4 : Kept (fun b => b ≠ mb) W W4 := (hkW2.trans (hk3 _)).trans hk4
  obtain ⟨x, hx, hx0, hx1⟩ := tabA_at hrn
  have hcx := (hG4'.cell rn).trans hx
  have hct := hG4.cell 1
  have hcf := hG4.frozen 1
  simp only [List.getElem?_toArray, List.getElem?_cons_succ, List.getElem?_cons_zero] at hct
  have hG5 : GB (W4.setCell ⟨W2.heap.size, 1, none⟩ (.int .i64 x)) W2.heap.size 60 (⟨1 + r1, x, 0, 0, 0, 0⟩ : TableD).vals := hG4.set 1 _
  have hM5 := hM4.set (i := 1) (.int .i64 x) htb (fun a ha => by have := HLO.out a ha; have := hkW2.size; omega)
  have hk5 : Kept (fun b => b ≠ mb) W (W4.setCell ⟨W2.heap.size, 1, none⟩ (.int .i64 x)) := hkW4.set_new hkW2.size _
  have hGr5 : GB (W4.setCell ⟨W2.heap.size, 1, none⟩ (.int .i64 x)) W.heap.size 60 tz.vals := hGr.keep (s := fun b => b ≠ W2.heap.size) (Kept.setCell _ _ _ (fun h => h rfl)) (by have := HS1.out; omega)
  have HG5 : Hid _ := hG5
  have HM5 : Hid _ := hM5
  have HK5 : Hid _ := hk5
  have HGr5 : Hid _ := hGr5
  have HKW2 : Hid _ := hkW2
  clear hG5 hM5 hk5 hGr5 hkW2 hkW4 hG4' hGr hG2' hG3 hG3' hM4 hk4 hk3 hk2
  go_wp2
  go_loopw [4] (fun i wr => ∃ (k : Nat) (t : TableD), i = .int .i64 k ∧ (k : Int) ≤ t.cols ∧ TabOk t k ∧ GB wr W2.heap.size 60 t.vals ∧ GB wr W.heap.size 60 tz.vals ∧ MakerAt mb lo lc l wr ∧ Kept (fun b => b ≠ mb) W wr) (fun i wr => 10 - (intOf i).toNat)
  case atStart => exact ⟨0, ⟨1 + r1, x, 0, 0, 0, 0⟩, rfl, by show (0 : Int) ≤ 1 + r1; omega, ⟨by show 1 ≤ 1 + r1; omega, by show 1 + r1 ≤ 3; omega, hx0, hx1, fun m h => by omega⟩, HG5.out, HGr5.out, HM5.out, HK5.out⟩
  case round =>
    obtain ⟨k, ⟨cols, rows, k0, k1, k2, k3⟩, rfl, hkc, hT, hGt, hGr, hMr, hKr⟩ := hrel
    have c0 := hGt.cell 0
    have hcz : (⟨cols, rows, k0, k1, k2, k3⟩ : TableD).vals[0]? = some (.int .i64 cols) := rfl
    rw [hcz] at c0
    simp only at hkc
    have hc3 := hT.c3
    simp only at hc3
    clear hcz hG4 hct hcf hcx
    by_cases hlt : (k : Int) < cols
    · have hkk : k = 0 ∨ k = 1 ∨ k = 2 := by omega
      have hM6 := hMr.alloc (.cells kindA 3)
      have hn3 := next_any mb lo lc l 5 _ hM6 (by omega) HL.out
      have hG6 := hGt.keep (Kept.alloc (s := fun _ => True) wr (.cells kindA 3)) trivial
      have hG6' := GB.alloc wr kindA 3
      have hG6r := hGr.keep (Kept.alloc (s := fun _ => True) wr (.cells kindA 3)) trivial
      have hk6 := hKr.trans (Kept.alloc (s := fun b => b ≠ mb) wr (.cells kindA 3))
      have hmr := hMr.lt
      obtain ⟨W6, hW6⟩ : ∃ W6, wr.alloc (.cells kindA 3) = W6 := ⟨_, rfl⟩
      rw [hW6] at hn3 hG6 hG6' hG6r hk6
      unfold kindA at hW6
      clear hM6
      go_wp2_with fail
      refine hn3.mono ?_
      rintro e W7 ⟨r3, rfl, hr3, hr3', hM7, hk7⟩
      clear hW6 hn3 hMr
      obtain ⟨rn3, rfl⟩ : ∃ rn : Nat, r3 = (rn : Int) := ⟨r3.toNat, by omega⟩
      have hrn3 : rn3 < 5 := by omega
      obtain ⟨y, hy, hy0, hy1⟩ := kindA_at hrn3
      have hG7 := hG6.keep hk7 htb
      have hcy := ((hG6'.keep hk7 (show wr.heap.size ≠ mb by omega)).cell rn3).trans hy
      have hG7r := hG6r.keep hk7 hra
      have hk7' := hk6.trans hk7
      have d0 := hG7.cell 2
      have d1 := hG7.cell 3
      have d2 := hG7.cell 4
      have e0 := hG7.frozen 2
      have e1 := hG7.frozen 3
      have e2 := hG7.frozen 4
      have hM8 := fun i => hM7.set (G := W2.heap.size) (i := i) (.int .i64 y) htb (fun a ha => by have := HLO.out a ha; have := HKW2.out.size; omega)
      have hk8 := fun i => hk7'.set_new (G := W2.heap.size) (i := i) HKW2.out.size (.int .i64 y)
      have hG8r := fun i => hG7r.keep (s := fun b => b ≠ W2.heap.size) (Kept.setCell W7 ⟨W2.heap.size, i, none⟩ (.int .i64 y) (fun h => h rfl)) (by have := HS1.out; omega)
      have hG8 := fun i => hG7.set i (.int .i64 y)
      have f0 : (⟨cols, rows, k0, k1, k2, k3⟩ : TableD).vals[2]? = some (.int .i64 k0) := rfl
      have f1 : (⟨cols, rows, k0, k1, k2, k3⟩ : TableD).vals[3]? = some (.int .i64 k1) := rfl
      have f2 : (⟨cols, rows, k0, k1, k2, k3⟩ : TableD).vals[4]? = some (.int .i64 k2) := rfl
      rw [f0] at d0
      rw [f1] at d1
      rw [f2] at d2
      have HG8 : Hid _ := hG8
      have HG8r : Hid _ := hG8r
      have HM8 : Hid _ := hM8
      have HK8 : Hid _ := hk8
      have HT : Hid _ := hT
      clear hG8 hG8r hM8 hk8 hT f0 f1 f2 hG7 hG7r hk7' hM7 hk7 hk6 hG6 hG6' hG6r hGt hGr hKr c0
      rcases hkk with rfl | rfl | rfl
      · go_wp2
        go_roundw
        case rel => exact ⟨1, ⟨cols, rows, y, k1, k2, k3⟩, rfl, by show (1 : Int) ≤ cols; omega, ⟨HT.out.c1, HT.out.c3, HT.out.r0, HT.out.r1, fun m hm => by match m, hm with | 0, _ => exact ⟨hy0, hy1⟩⟩, HG8.out 2, HG8r.out 2, HM8.out 2, HK8.out 2⟩
        case measure => simp [intOf]
      · go_wp2
        go_roundw
        case rel => exact ⟨2, ⟨cols, rows, k0, y, k2, k3⟩, rfl, by show (2 : Int) ≤ cols; omega, ⟨HT.out.c1, HT.out.c3, HT.out.r0, HT.out.r1, fun m hm => by
          match m, hm with
          | 0, _ => exact HT.out.kd 0 (by omega)
          | 1, _ => exact ⟨hy0, hy1⟩⟩, HG8.out 3, HG8r.out 3, HM8.out 3, HK8.out 3⟩
        case measure => simp [intOf]
      · go_wp2
        go_roundw
        case rel => exact ⟨3, ⟨cols, rows, k0, k1, y, k3⟩, rfl, by show (3 : Int) ≤ cols; omega, ⟨HT.out.c1, HT.out.c3, HT.out.r0, HT.out.r1, fun m hm => by
          match m, hm with
          | 0, _ => exact HT.out.kd 0 (by omega)
          | 1, _ => exact HT.out.kd 1 (by omega)
          | 2, _ => exact ⟨hy0, hy1⟩⟩, HG8.out 4, HG8r.out 4, HM8.out 4, HK8.out 4⟩
        case measure => simp [intOf]
    · have hce : cols = (k : Int) := by omega
      have g0 := hGt.cell 0
      have g1 := hGt.cell 1
      have g2 := hGt.cell 2
      have g3 := hGt.cell 3
      have g4 := hGt.cell 4
      have g5 := hGt.cell 5
      have r0 := hGr.cell 0
      have r1c := hGr.cell 1
      have r2c := hGr.cell 2
      have r3c := hGr.cell 3
      have r4c := hGr.cell 4
      have r5c := hGr.cell 5
      have z0 := hGr.frozen 0
      have z1 := hGr.frozen 1
      have z2 := hGr.frozen 2
      have z3 := hGr.frozen 3
      have z4 := hGr.frozen 4
      have z5 := hGr.frozen 5
      simp only [TableD.vals, tz, List.getElem?_toArray, List.getElem?_cons_succ, List.getElem?_cons_zero] at g0 g1 g2 g3 g4 g5 r0 r1c r2c r3c r4c r5c
      have HT : Hid _ := hT
      have HMr : Hid _ := hMr
      have HKr : Hid _ := hKr
      have HCE : Hid _ := hce
      have HGr : Hid _ := hGr
      clear hGt hGr hT hMr hKr hce c0
      have hGf : GB ((((((wr.setCell ⟨W.heap.size, 0, none⟩ (.int .i64 cols)).setCell ⟨W.heap.size, 1, none⟩ (.int .i64 rows)).setCell ⟨W.heap.size, 2, none⟩ (.int .i64 k0)).setCell ⟨W.heap.size, 3, none⟩ (.int .i64 k1)).setCell ⟨W.heap.size, 4, none⟩ (.int .i64 k2)).setCell ⟨W.heap.size, 5, none⟩ (.int .i64 k3)) W.heap.size 60 (⟨cols, rows, k0, k1, k2, k3⟩ : TableD).vals :=
        (((((GB.set HGr.out 0 _).set 1 _).set 2 _).set 3 _).set 4 _).set 5 _
      have HGf : Hid _ := hGf
      clear hGf
      go_wp2
      refine bodyPost_ret (results_cell_row rfl _ _ W.heap.size 60 (⟨cols, rows, k0, k1, k2, k3⟩ : TableD).vals (0, 0) _ rfl HGf.out Try.underlying60 rfl (by kernel_rfl)) rfl ?_
      have hlo' : ∀ a, lo = some a → a.block ≠ W.heap.size := fun a ha => by have := HLO.out a ha; omega
      refine ⟨⟨cols, rows, k0, k1, k2, k3⟩, rfl, ?_, ?_, ?_⟩
      · have : cols.toNat = k := by have := HCE.out; omega
        show TabOk _ cols.toNat
        rw [this]
        exact HT.out
      · exact (((((MakerAt.set HMr.out _ hra hlo').set _ hra hlo').set _ hra hlo').set _ hra hlo').set _ hra hlo').set _ hra hlo'
      · exact (((((Kept.set_new HKr.out (Nat.le_refl _) _).set_new (Nat.le_refl _) _).set_new (Nat.le_refl _) _).set_new (Nat.le_refl _) _).set_new (Nat.le_refl _) _).set_new (Nat.le_refl _) _

end Go.Proofs.Ytlpbelhfpoilpaa

