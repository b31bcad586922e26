import Derived.RegionTactic
import Derived.BigQuiet
import Derived.Test.YtdbkdomhlkcbpaaCBaseBase2Base3Base4
import Derived.Test.YtdbkdomhlkcbpaaCItAItBItCCatA
import Derived.Test.YtdbkdomhlkcbpaaCBase5PickA
import Derived.Test.YtdbkdomhlkcbpaaCPure2EvPGrAGrB
import Derived.Test.YtdbkdomhlkcbpaaCGrN
set_option linter.all false
namespace Go.Scout
open Go.RowKit

theorem groupsN_len (kc sc : List Int) (rows : List (List Int)) : (groupsN kc sc rows).length ≤ 1 + rows.length := by
  have h := fold_len kc sc (rows.map fun r => (⟨none, 0, r⟩ : IntsV)) (startG kc sc)
  rw [List.foldl_map, List.length_map] at h
  have h3 : (startG kc sc).length ≤ 1 := by unfold startG; split <;> simp
  have h' : (rows.foldl (Go.Scout.stepG kc sc) (startG kc sc)).length ≤ (startG kc sc).length + rows.length := h
  unfold groupsN
  omega

theorem tabN_small {ts : List TableD} {db : List RowsV} (h : dbB ts db = true) (t : Int) : ∀ r ∈ tabN db t, ∀ v ∈ r, smallI v := by
  intro r hr v hv
  unfold tabN at hr
  obtain ⟨x, hx, rfl⟩ := List.mem_map.1 hr
  by_cases hi : t.toNat < db.length
  · unfold dbB at h
    rw [List.all_eq_true] at h
    have h1 := h t.toNat (List.mem_range.2 hi)
    unfold tabB fitB at h1
    rw [Bool.and_eq_true, List.all_eq_true] at h1
    have h2 := h1.2 x hx
    unfold rowB at h2
    rw [Bool.and_eq_true, List.all_eq_true] at h2
    have h3 := h2.2 v hv
    unfold valB at h3
    simp only [Bool.or_eq_true, Bool.and_eq_true, decide_eq_true_eq] at h3
    unfold smallI
    omega
  · have e : db.getD t.toNat rz = rz := by simp [List.getD, List.getElem?_eq_none (Nat.le_of_not_lt hi)]
    rw [e] at hx
    simp [rz] at hx

theorem joinN_small {L R : List (List Int)} (hL : ∀ r ∈ L, ∀ v ∈ r, smallI v) (hR : ∀ r ∈ R, ∀ v ∈ r, smallI v) : ∀ r ∈ joinN L R, ∀ v ∈ r, smallI v := by
  intro r hr v hv
  unfold joinN at hr
  obtain ⟨x, hx, hr⟩ := List.mem_flatMap.1 hr
  obtain ⟨y, hy, rfl⟩ := List.mem_map.1 hr
  rcases List.mem_append.1 hv with h | h
  · exact hL x hx v h
  · exact hR y hy v h

theorem foldJ_small : ∀ (ts : List (List (List Int))) (t : List (List Int)), (∀ r ∈ t, ∀ v ∈ r, smallI v) → (∀ u ∈ ts, ∀ r ∈ u, ∀ v ∈ r, smallI v) → ∀ r ∈ ts.foldl joinN t, ∀ v ∈ r, smallI v
  | [], _, h, _ => h
  | u :: ts, t, h, hs => foldJ_small ts (joinN t u) (joinN_small h (hs u (by simp))) (fun x hx => hs x (by simp [hx]))

theorem combos_small {ts : List TableD} {db : List RowsV} (h : dbB ts db = true) (src : List Int) : ∀ r ∈ combosN src db, ∀ v ∈ r, smallI v := by
  unfold combosN
  cases src with
  | nil => intro r hr; simp [combosT] at hr
  | cons a l =>
    rw [List.map_cons]
    refine foldJ_small _ _ (tabN_small h a) (fun u hu => ?_)
    obtain ⟨c, _, rfl⟩ := List.mem_map.1 hu
    exact tabN_small h c

end Go.Scout
namespace Go.Proofs.Ytdbkdomhlkcbpaa
open Go.RowKit Go.Scout Go.Shelf

set_option maxRecDepth 20000 in
set_option maxHeartbeats 8000000 in
/-- scout.Eval of a query that is one, groups and asks no order, on a database that is one. -/
theorem evalG_any (co d : Option Addr) (cc dcap : Nat) (ts : List TableD) (q : QueryV) (db : List RowsV) (w : World) (hts : TablesAt w co ts) (hq : q.At w) (hkc : q.keys.xs.length ≤ q.keys.cap) (hoc : q.ord.xs.length ≤ q.ord.cap) (hsc : q.src.xs.length ≤ q.src.cap) (hdb : DbHad w d db)
    (hg : q.group = true) (ho : q.ord.xs = []) (hchk : q.check ts = 0) (hdat : dataB ts q.src.xs db = true) :
    Calls Try.prog 17 #[.slice co ts.length cc, .agg q.cells, .slice d db.length dcap] w fun e w' => ∃ (v : Value) (ys : List IntsV) (o : Nat → Prop) (w1 : World), e = .returned (.tuple #[v, .int .i64 0]) ∧ ys.map IntsV.xs = (groupsN q.keys.xs q.sums.xs ((combosN q.src.xs db).filter (holdsB q.wh))).map Gr.row ∧
      Gathered (ownEl 3) w1.heap.size w1 23 ys o w' v ∧ Below w.heap.size w w1 := by
  obtain ⟨p1, p2, p3, p4, p5, p6⟩ := check_parts hchk
  have hf := full_parts p2
  have hdd : (db.length = ts.length ∧ dbB ts db = true) ∧ prodN q.src.xs db ≤ 20000 := by
    unfold dataB at hdat
    simp only [Bool.and_eq_true, decide_eq_true_eq] at hdat
    exact hdat
  have hcl := combos_len (src := q.src.xs) hdd.1.2
  have hcc := combos_count q.src.xs db
  have hkey : allB q.keys.xs (widthN ts q.src.xs) = true ∧ allB q.sums.xs (widthN ts q.src.xs) = true := by
    unfold restB at p6
    simp only [Bool.and_eq_true] at p6
    exact ⟨p6.1.1.1.1.1.1.2, p6.1.1.1.1.1.2⟩
  have hsmall : ∀ r ∈ combosN q.src.xs db, ∀ v ∈ r, smallI v := combos_small hdd.1.2 q.src.xs
  have hrow : ∀ t, ∀ r ∈ tabN db t, r.length ≤ 100 := fun t r hr => by
    obtain ⟨h1, h2⟩ := tabN_fit hdd.1.2 t r hr
    have := (cols_of p1 (i := t.toNat) (by omega)).2
    omega
  have hlen : ∀ t, (tabN db t).length ≤ 1000000 := fun t => by
    rw [tabN_len]
    have := dbB_len hdd.1.2 t.toNat
    omega
  have hb0 := below_alloc w (.cells q.cells 26)
  have hc1 := checkQ_any co cc ts q _ (hts.below hb0) (hq.below hb0) hkc hoc
  rw [hchk] at hc1
  obtain ⟨w0, hw0⟩ : ∃ w0, w.alloc (.cells q.cells 26) = w0 := ⟨_, rfl⟩
  have HX : Hid (w0.cell? ⟨w.heap.size, 0, none⟩ = some q.src.val ∧ w0.cell? ⟨w.heap.size, 1, none⟩ = some (.slice q.wad q.wh.length q.wcap) ∧ w0.cell? ⟨w.heap.size, 2, none⟩ = some (.bool q.group) ∧ w0.cell? ⟨w.heap.size, 3, none⟩ = some q.keys.val ∧ w0.cell? ⟨w.heap.size, 4, none⟩ = some q.sums.val ∧ w0.cell? ⟨w.heap.size, 5, none⟩ = some q.sel.val ∧ w0.cell? ⟨w.heap.size, 6, none⟩ = some q.ord.val) := by
    rw [← hw0]; unfold QueryV.cells; refine ⟨?_, ?_, ?_, ?_, ?_, ?_, ?_⟩ <;> simp
  rw [hw0] at hc1 hb0
  have hcd := fun (x : World) (hb : Below w.heap.size w x) => checkData_any co cc ts q d dcap db x (hts.below hb) (IntsAt.below hb hq.src) (hdb.1.below hb) p3 hf.1
  rw [if_pos hdat] at hcd
  have han := fun (x : World) (hb : Below w.heap.size w x) => answerG_any q d dcap db x hg ho (hq.below hb) (hdb.below hb) p4 hf.1 hsc (by rw [hdd.1.1]; exact p3) hrow hlen (fun r hr i hi k hk => by rw [hcl r hr]; exact clause_conds p5 hi hk) hf.2.2.2.1 hf.2.2.2.2.1 (by have := hdd.2; omega) (fun r hr => by rw [hcl r hr]; exact hkey.1) (fun r hr => by rw [hcl r hr]; exact hkey.2) hsmall
  have hrl : ((groupsN q.keys.xs q.sums.xs ((combosN q.src.xs db).filter (holdsB q.wh))).map Gr.row).length ≤ 1000000 := by
    rw [List.length_map]
    have := List.length_filter_le (holdsB q.wh) (combosN q.src.xs db)
    have := hdd.2
    have := groupsN_len q.keys.xs q.sums.xs ((combosN q.src.xs db).filter (holdsB q.wh))
    omega
  have HRL : Hid _ := hrl
  have HCD : Hid _ := hcd
  have HAN : Hid _ := han
  have HB0 : Hid _ := hb0
  have HW0 : Hid _ := hw0
  clear hcd han hrl hb0 hw0 hts hq hkc hoc hsc hdb hchk hdat p1 p2 p3 p4 p5 p6 hf hdd hcl hcc hkey hsmall hrow hlen
  generalize (groupsN q.keys.xs q.sums.xs ((combosN q.src.xs db).filter (holdsB q.wh))).map Gr.row = rows at *
  obtain ⟨⟨sad, scap, sxs⟩, wad, wcap, wh, group, keys, sums, ⟨lad, lcap, lxs⟩, ⟨oad, ocap, oxs⟩⟩ := q
  unfold QueryV.cells IntsV.val at *
  simp only at *
  subst ho
  subst hg
  obtain ⟨c0, c1, c2, c3, c4, c5, c6⟩ := HX.out
  simp only [List.length_nil] at *
  go_enter Try.func17, Try.ntmps17
  go_wp2_with fail
  rw [HW0.out]
  refine hc1.mono ?_
  rintro e w1 ⟨rfl, hb1⟩
  have hbw1 : Below w.heap.size w w1 := HB0.out.trans (hb1.mono HB0.out.size)
  have d0 := cell_below hb1 c0
  have d1 := cell_below hb1 c1
  have d2 := cell_below hb1 c2
  have d3 := cell_below hb1 c3
  have d4 := cell_below hb1 c4
  have d5 := cell_below hb1 c5
  have d6 := cell_below hb1 c6
  have hcd := HCD.out w1 hbw1
  clear hc1 c0 c1 c2 c3 c4 c5 c6
  go_wp2_with fail
  refine Calls.mono hcd ?_
  rintro e w2 ⟨rfl, hb2⟩
  have hbw2 : Below w.heap.size w w2 := hbw1.trans (hb2.mono hbw1.size)
  have e0 := cell_below hb2 d0
  have e1 := cell_below hb2 d1
  have e2 := cell_below hb2 d2
  have e3 := cell_below hb2 d3
  have e4 := cell_below hb2 d4
  have e5 := cell_below hb2 d5
  have e6 := cell_below hb2 d6
  have han := HAN.out w2 hbw2
  clear hcd d0 d1 d2 d3 d4 d5 d6
  go_wp2_with fail
  refine Calls.mono han ?_
  rintro e w3 ⟨v, rfl, hsv, hb3⟩
  have hbw3 : Below w.heap.size w w3 := hbw2.trans (hb3.mono hbw2.size)
  obtain ⟨g3, lb3, rfl, eg3, hs3⟩ := hsv
  have hga := gather_any (ownEl 3) (fun _ => rfl) g3 lb3 rows w3 w3 (Below.refl _ _) HRL.out hs3 eg3
  clear han e0 e1 e2 e3 e4 e5 e6 hs3 eg3
  go_wp2_with fail
  refine hga.mono ?_
  rintro e w4 ⟨v4, ys, o4, rfl, hys, hG4⟩
  obtain ⟨va, vn, vc, rfl⟩ := ownsRow_slice hG4.own
  clear hga
  go_wp2
  go_ret2
  exact ⟨_, ys, o4, w3, rfl, hys, hG4, hbw3⟩

end Go.Proofs.Ytdbkdomhlkcbpaa

namespace Go.Scout
open Go.RowKit

theorem allocs_heap : ∀ (os : List Obj) (w : World) (i : Nat) (hi : i < os.length), (os.foldl World.alloc w).heap[w.heap.size + i]? = some os[i]
  | [], _, i, hi => by simp at hi
  | o :: os, w, 0, _ => by
    rw [List.foldl_cons]
    have hb : ∀ (os : List Obj) (v : World), Below v.heap.size v (os.foldl World.alloc v) := by
      intro os
      induction os with
      | nil => intro v; exact Below.refl _ _
      | cons o os ih => intro v; rw [List.foldl_cons]; exact (below_alloc v o).trans ((ih _).mono (below_alloc v o).size)
    exact ((hb os (w.alloc o)).block w.heap.size (by simp)).trans (heap_alloc_new w o)
  | o :: os, w, i + 1, hi => by
    rw [List.foldl_cons]
    have h := allocs_heap os (w.alloc o) i (by simpa using hi)
    rw [World.size_alloc] at h
    rw [show w.heap.size + (i + 1) = w.heap.size + 1 + i by omega, h]
    rfl

theorem allocs_below : ∀ (os : List Obj) (v : World), Below v.heap.size v (os.foldl World.alloc v) := by
  intro os
  induction os with
  | nil => intro v; exact Below.refl _ _
  | cons o os ih => intro v; rw [List.foldl_cons]; exact (below_alloc v o).trans ((ih _).mono (below_alloc v o).size)

def aliveQ (n : Nat) : QueryV := (⟨⟨some ⟨n + 1, 0, none⟩, 1, [0]⟩, none, 0, [], true, ⟨none, 0, []⟩, ⟨some ⟨n + 1 + 1, 0, none⟩, 1, [0]⟩, ⟨none, 0, []⟩, ⟨none, 0, []⟩⟩ : QueryV)
def aliveDB (n : Nat) : List RowsV := [(⟨some ⟨n + 1 + 1 + 1 + 1 + 1 + 1 + 1 + 1, 0, none⟩, 4, [⟨some ⟨n + 1 + 1 + 1 + 1, 0, none⟩, 1, [4]⟩, ⟨some ⟨n + 1 + 1 + 1 + 1 + 1, 0, none⟩, 1, [3]⟩, ⟨some ⟨n + 1 + 1 + 1 + 1 + 1 + 1, 0, none⟩, 1, [3]⟩, ⟨some ⟨n + 1 + 1 + 1 + 1 + 1 + 1 + 1, 0, none⟩, 1, [1073741824]⟩]⟩ : RowsV)]
def aliveTS : List TableD := [⟨1, 10, 10, 0, 0, 0⟩]

theorem alive_check (n : Nat) : (aliveQ n).check aliveTS = 0 := rfl
theorem alive_data (n : Nat) : dataB aliveTS (aliveQ n).src.xs (aliveDB n) = true := rfl
theorem alive_rows (n : Nat) : (groupsN (aliveQ n).keys.xs (aliveQ n).sums.xs ((combosN (aliveQ n).src.xs (aliveDB n)).filter (holdsB (aliveQ n).wh))).map Gr.row = [[4, 10]] := rfl

end Go.Scout
namespace Go.Proofs.Ytdbkdomhlkcbpaa
open Go.RowKit Go.Scout

theorem one_int {W : World} {b : Nat} {x : Int} {t : TypeId} (h : W.heap[b]? = some (.cells #[.int .i64 x] t)) (hl : b < W.heap.size) : rowEl.At ⟨some ⟨b, 0, none⟩, 1, [x]⟩ W := by
  refine ⟨⟨by simp, fun i hi => ⟨b, 0, rfl, ?_⟩⟩, fun a ha => by cases ha; exact hl, fun e => by cases e⟩
  match i, hi with
  | 0, _ => exact cells_cell h rfl

def aliveO (n : Nat) : List Obj := [(.cells #[.int .i64 1, .int .i64 10, .int .i64 10, .int .i64 0, .int .i64 0, .int .i64 0] 60), (.cells #[.int .i64 0] 3), (.cells #[.int .i64 0] 3), (.cells #[.slice (some ⟨n + 1, 0, none⟩) 1 1, .slice none 0 0, .bool true, .slice none 0 0, .slice (some ⟨n + 1 + 1, 0, none⟩) 1 1, .slice none 0 0, .slice none 0 0] 26), (.cells #[.int .i64 4] 3), (.cells #[.int .i64 3] 3), (.cells #[.int .i64 3] 3), (.cells #[.int .i64 1073741824] 3), (.cells #[.slice (some ⟨n + 1 + 1 + 1 + 1, 0, none⟩) 1 1, .slice (some ⟨n + 1 + 1 + 1 + 1 + 1, 0, none⟩) 1 1, .slice (some ⟨n + 1 + 1 + 1 + 1 + 1 + 1, 0, none⟩) 1 1, .slice (some ⟨n + 1 + 1 + 1 + 1 + 1 + 1 + 1, 0, none⟩) 1 1] 23), (.cells #[.slice (some ⟨n + 1 + 1 + 1 + 1 + 1 + 1 + 1 + 1, 0, none⟩) 4 4] 53)]

theorem alive_at (w : World) : TablesAt ((aliveO w.heap.size).foldl World.alloc w) (some ⟨w.heap.size, 0, none⟩) aliveTS ∧ (aliveQ w.heap.size).At ((aliveO w.heap.size).foldl World.alloc w) ∧ DbHad ((aliveO w.heap.size).foldl World.alloc w) (some ⟨w.heap.size + 1 + 1 + 1 + 1 + 1 + 1 + 1 + 1 + 1, 0, none⟩) (aliveDB w.heap.size) := by
  have hh := allocs_heap (aliveO w.heap.size) w
  have hb := (allocs_below (aliveO w.heap.size) w).size
  have h0 := hh 0 (by simp [aliveO])
  have h1 := hh 1 (by simp [aliveO])
  have h2 := hh 2 (by simp [aliveO])
  have h4 := hh 4 (by simp [aliveO])
  have h5 := hh 5 (by simp [aliveO])
  have h6 := hh 6 (by simp [aliveO])
  have h7 := hh 7 (by simp [aliveO])
  have h8 := hh 8 (by simp [aliveO])
  have h9 := hh 9 (by simp [aliveO])
  generalize (aliveO w.heap.size).foldl World.alloc w = V at *
  have lt : ∀ {i : Nat} {o : Obj}, V.heap[w.heap.size + i]? = some o → w.heap.size + i < V.heap.size := fun h => (Array.getElem?_eq_some_iff.1 h).1
  have k1 := one_int h1 (lt h1)
  have k2 := one_int h2 (lt h2)
  have k4 := one_int h4 (lt h4)
  have k5 := one_int h5 (lt h5)
  have k6 := one_int h6 (lt h6)
  have k7 := one_int h7 (lt h7)
  have hrs : RowsHad V (some ⟨w.heap.size + 8, 0, none⟩) [⟨some ⟨w.heap.size + 4, 0, none⟩, 1, [4]⟩, ⟨some ⟨w.heap.size + 5, 0, none⟩, 1, [3]⟩, ⟨some ⟨w.heap.size + 6, 0, none⟩, 1, [3]⟩, ⟨some ⟨w.heap.size + 7, 0, none⟩, 1, [1073741824]⟩] := by
    refine ⟨⟨by simp, fun i hi => ⟨w.heap.size + 8, 0, rfl, ?_⟩, fun i hi => ?_⟩, fun a ha => by cases ha; exact lt h8, fun i hi => ?_⟩
    · match i, hi with
      | 0, _ => exact cells_cell h8 rfl
      | 1, _ => exact cells_cell h8 rfl
      | 2, _ => exact cells_cell h8 rfl
      | 3, _ => exact cells_cell h8 rfl
    · match i, hi with
      | 0, _ => exact k4.1
      | 1, _ => exact k5.1
      | 2, _ => exact k6.1
      | 3, _ => exact k7.1
    · match i, hi with
      | 0, _ => exact k4
      | 1, _ => exact k5
      | 2, _ => exact k6
      | 3, _ => exact k7
  have hnil : ∀ W : World, IntsAt W none [] := fun W => ⟨by simp, fun i hi => by simp at hi⟩
  refine ⟨⟨by simp [aliveTS], fun i hi => ⟨w.heap.size, 0, rfl, ?_⟩⟩, ⟨k1.1, ⟨by simp [aliveQ], fun i hi => by simp [aliveQ] at hi, fun i hi => by simp [aliveQ] at hi⟩, hnil V, k2.1, hnil V, hnil V⟩, ⟨⟨by simp [aliveDB], fun i hi => ⟨w.heap.size + 9, 0, rfl, ?_⟩, fun i hi => ?_⟩, fun i hi => ?_⟩⟩
  · match i, hi with
    | 0, _ => exact ⟨cells_cell h0 rfl, cells_cell h0 rfl, cells_cell h0 rfl, cells_cell h0 rfl, cells_cell h0 rfl, cells_cell h0 rfl⟩
  · match i, hi with
    | 0, _ => exact cells_cell h9 rfl
  · match i, hi with
    | 0, _ => exact hrs.1
  · match i, hi with
    | 0, _ => exact hrs

set_option maxRecDepth 20000 in
set_option maxHeartbeats 8000000 in
theorem alive_any (w : World) : Calls Try.prog 16 #[] w fun e w' => e = .returned (.bool true) ∧ Below w.heap.size w w' := by
  obtain ⟨a1, a2, a3⟩ := alive_at w
  have hev := evalG_any (some ⟨w.heap.size, 0, none⟩) (some ⟨w.heap.size + 1 + 1 + 1 + 1 + 1 + 1 + 1 + 1 + 1, 0, none⟩) 1 1 aliveTS (aliveQ w.heap.size) (aliveDB w.heap.size) _ a1 a2 (Nat.le_refl _) (Nat.le_refl _) (Nat.le_refl _) a3 rfl rfl (alive_check _) (alive_data _)
  rw [alive_rows] at hev
  have hbV := allocs_below (aliveO w.heap.size) w
  have HBV : Hid _ := hbV
  clear a1 a2 a3 hbV
  have hev' : Calls Try.prog 17 #[.slice (some ⟨w.heap.size, 0, none⟩) 1 1, .agg #[.slice (some ⟨w.heap.size + 1, 0, none⟩) 1 1, .slice none 0 0, .bool true, .slice none 0 0, .slice (some ⟨w.heap.size + 1 + 1, 0, none⟩) 1 1, .slice none 0 0, .slice none 0 0], .slice (some ⟨w.heap.size + 1 + 1 + 1 + 1 + 1 + 1 + 1 + 1 + 1, 0, none⟩) 1 1] (((((((((((w).alloc (.cells #[.int .i64 1, .int .i64 10, .int .i64 10, .int .i64 0, .int .i64 0, .int .i64 0] 60)).alloc (.cells #[.int .i64 0] 3)).alloc (.cells #[.int .i64 0] 3)).alloc (.cells #[.slice (some ⟨w.heap.size + 1, 0, none⟩) 1 1, .slice none 0 0, .bool true, .slice none 0 0, .slice (some ⟨w.heap.size + 1 + 1, 0, none⟩) 1 1, .slice none 0 0, .slice none 0 0] 26)).alloc (.cells #[.int .i64 4] 3)).alloc (.cells #[.int .i64 3] 3)).alloc (.cells #[.int .i64 3] 3)).alloc (.cells #[.int .i64 1073741824] 3)).alloc (.cells #[.slice (some ⟨w.heap.size + 1 + 1 + 1 + 1, 0, none⟩) 1 1, .slice (some ⟨w.heap.size + 1 + 1 + 1 + 1 + 1, 0, none⟩) 1 1, .slice (some ⟨w.heap.size + 1 + 1 + 1 + 1 + 1 + 1, 0, none⟩) 1 1, .slice (some ⟨w.heap.size + 1 + 1 + 1 + 1 + 1 + 1 + 1, 0, none⟩) 1 1] 23)).alloc (.cells #[.slice (some ⟨w.heap.size + 1 + 1 + 1 + 1 + 1 + 1 + 1 + 1, 0, none⟩) 4 4] 53)) _ := hev
  clear hev
  go_enter Try.func16, Try.ntmps16
  go_wp2_with fail
  refine hev'.mono ?_
  rintro e w2 ⟨v, ys, o, w1, rfl, hys, hG, hb1⟩
  clear hev'
  have hy1 : ys.length = 1 := by
    have := congrArg List.length hys
    simpa using this
  obtain ⟨y, rfl⟩ := List.length_eq_one_iff.1 hy1
  clear hy1
  have hyx : y.xs = [4, 10] := by
    have : [y.xs] = [[4, 10]] := hys
    injection this
  obtain ⟨g, cap, rfl, hc⟩ := ownsRow_cell hG.own (i := 0) (by simp)
  have hyA := (hG.at' y (by simp)).1.1
  obtain ⟨yad, ycap, yxs⟩ := y
  simp only at hyx
  subst hyx
  obtain ⟨b, off, rfl, hcs⟩ := IntsAt.get hyA (i := 0) (by simp)
  have q0 := hcs 0 (by simp)
  have q1 := hcs 1 (by simp)
  have hc' : w2.cell? ⟨g, 0, none⟩ = some (.slice (some ⟨b, off, none⟩) 2 ycap) := hc
  have q0' : w2.cell? ⟨b, off, none⟩ = some (.int .i64 4) := q0
  have q1' : w2.cell? ⟨b, off + 1, none⟩ = some (.int .i64 10) := q1
  have hbf : Below w.heap.size w w2 := HBV.out.trans ((hb1.trans (hG.below.mono hb1.size)).mono HBV.out.size)
  have HBF : Hid _ := hbf
  clear hbf hc q0 q1 hcs hyA hG hb1 hys
  simp only [List.length_cons, List.length_nil, Nat.reduceAdd]
  go_wp2
  go_ret
  exact ⟨rfl, HBF.out⟩

end Go.Proofs.Ytdbkdomhlkcbpaa

namespace Go.Scout
open Go.RowKit

def pickI (c n : Int) : Int := Int.tmod (if c < 0 then -(c + 1) else c) n
theorem pickI_range {c n : Int} (hn : 0 < n) : 0 ≤ pickI c n ∧ pickI c n < n := by
  unfold pickI
  have h : 0 ≤ (if c < 0 then -(c + 1) else c) := by split <;> omega
  exact ⟨Int.tmod_nonneg _ h, Int.tmod_lt_of_pos _ hn⟩

theorem cell_keep0 {A B : World} {p : Addr} {v : Value} (h : A.cell? p = some v) (hk : Kept (fun _ => True) A B) : B.cell? p = some v :=
  (World.cell?_of_block (hk.block _ (cell_lt h) trivial)).trans h

theorem cell_keepN {A B : World} {p : Addr} {v : Value} {n : Nat} (h : A.cell? p = some v) (hk : Kept (fun b => b ≠ n) A B) (hp : p.block ≠ n) : B.cell? p = some v :=
  (World.cell?_of_block (hk.block _ (cell_lt h) hp)).trans h

/-- A maker of cases, and the numbers that it takes. -/
structure MakerAt (mb : Nat) (lo : Option Addr) (lc : Nat) (l : List Int) (W : World) : Prop where
  num : ∃ k : Nat, k ≤ l.length ∧ W.cell? ⟨mb, 1, none⟩ = some (.int .i64 k)
  lst : W.cell? ⟨mb, 0, none⟩ = some (.slice lo l.length lc)
  thaw : W.frozen? ⟨mb, 1, none⟩ = false
  ints : IntsAt W lo l
  off : ∀ a, lo = some a → a.block ≠ mb

theorem MakerAt.keep {mb : Nat} {lo : Option Addr} {lc : Nat} {l : List Int} {A B : World} (h : MakerAt mb lo lc l A) (hk : Kept (fun _ => True) A B) : MakerAt mb lo lc l B := by
  obtain ⟨k, hk1, hk2⟩ := h.num
  exact ⟨⟨k, hk1, cell_keep0 hk2 hk⟩, cell_keep0 h.lst hk, (World.frozen?_of_block (a := ⟨mb, 1, none⟩) (hk.block mb (cell_lt (p := ⟨mb, 0, none⟩) h.lst) trivial)).trans h.thaw, ⟨h.ints.1, h.ints.2.keep fun a ha hlt => hk.block _ hlt trivial⟩, h.off⟩

theorem Kept.drewN {s : Nat → Prop} (W : World) (n : Nat) : Kept s W (W.drewN n) := Kept.of_below (below_drewN (Below.refl W.heap.size W) n) (fun _ hb _ => hb)

theorem MakerAt.more {mb : Nat} {lo : Option Addr} {lc : Nat} {l : List Int} {A : World} (h : MakerAt mb lo lc l A) {k : Nat} (hk : k ≤ l.length) : MakerAt mb lo lc l (A.setCell ⟨mb, 1, none⟩ (.int .i64 k)) := by
  obtain ⟨k0, _, hk2⟩ := h.num
  have hkk : Kept (fun b => b ≠ mb) A (A.setCell ⟨mb, 1, none⟩ (.int .i64 k)) := ⟨rfl, rfl, rfl, by simp [World.setCell], fun b _ hb => Below.heap_setCell A _ _ b hb⟩
  refine ⟨⟨k, hk, World.cell?_setCell_same' _ _ _ (by rw [hk2]; rfl)⟩, ?_, by rw [World.frozen?_setCell]; exact h.thaw, ⟨h.ints.1, h.ints.2.keep fun a ha hlt => hkk.block _ hlt (h.off a ha)⟩, h.off⟩
  exact (World.cell?_setCell_other A ⟨mb, 1, none⟩ ⟨mb, 0, none⟩ (.int .i64 k) (fun e => by cases e)).trans h.lst

end Go.Scout
namespace Go.Proofs.Ytdbkdomhlkcbpaa
open Go.RowKit Go.Scout

set_option maxRecDepth 20000 in
set_option maxHeartbeats 4000000 in
theorem pick1_any (c n : Int) (w : World) (hn : 0 < n) (hc : -9223372036854775808 ≤ c ∧ c ≤ 9223372036854775807) :
    Calls Try.prog 13 #[.int .i64 c, .int .i64 n] w fun e w' => e = .returned (.int .i64 (pickI c n)) ∧ w' = w := by
  have hn0 : ¬ n = 0 := by omega
  by_cases h0 : c < 0
  · have hw1 : wrap64 (c + 1) = c + 1 := by unfold wrap64; omega
    have hw2 : wrap64 (-(c + 1)) = -(c + 1) := by unfold wrap64; omega
    have hR : pickI c n = -((c + 1).tmod n) := by unfold pickI; rw [if_pos h0, Int.neg_tmod]
    rw [hR]
    clear hR
    go_enter Try.func13, Try.ntmps13
    go_wp2
    go_ret
    exact ⟨rfl, rfl⟩
  · have hR : pickI c n = c % n := by unfold pickI; rw [if_neg h0, Int.tmod_eq_emod_of_nonneg (by omega)]
    rw [hR]
    clear hR
    go_enter Try.func13, Try.ntmps13
    go_wp2
    go_ret
    exact ⟨rfl, rfl⟩

set_option maxRecDepth 20000 in
set_option maxHeartbeats 8000000 in
theorem next_any (mb : Nat) (lo : Option Addr) (lc : Nat) (l : List Int) (n : Int) (W : World) (hm : MakerAt mb lo lc l W) (hn : 0 < n) (hl : ∀ x ∈ l, -9223372036854775808 ≤ x ∧ x ≤ 9223372036854775807) :
    Calls Try.prog 34 #[.pointer (some ⟨mb, 0, none⟩), .int .i64 n] W fun e W' => ∃ k : Int, e = .returned (.int .i64 k) ∧ 0 ≤ k ∧ k < n ∧ MakerAt mb lo lc l W' ∧ Kept (fun b => b ≠ mb) W W' := by
  obtain ⟨k, hk, hck⟩ := hm.num
  have hcl := hm.lst
  have hth := hm.thaw
  have hlen := hm.ints.1
  have HM : Hid _ := hm
  have HL : Hid _ := hl
  clear hm hl
  by_cases hlt : k < l.length
  · have hge : ¬ (k : Int) ≥ (l.length : Int) := by omega
    obtain ⟨b, off, rfl, hcs⟩ := HM.out.ints.get hlt
    have hcx := hcs k hlt
    have hxr := HL.out l[k] (List.getElem_mem hlt)
    have e1 : l.getD k 0 = l[k] := by simp [List.getD, hlt]
    rw [e1] at hcx
    generalize l[k] = x at *
    have hbm : b ≠ mb := HM.out.off _ rfl
    clear hcs e1
    go_enter Try.func34, Try.ntmps34
    go_wp2
    go_quiet (fail)
    go_wp2
    have hM1 := MakerAt.more (MakerAt.keep HM.out (Kept.drewN W nq)) (k := k + 1) (by omega)
    have hk1 : Kept (fun b => b ≠ mb) W ((W.drewN nq).setCell ⟨mb, 1, none⟩ (.int .i64 ((k + 1 : Nat) : Int))) := (Kept.drewN W nq).trans ⟨rfl, rfl, rfl, by simp [World.setCell], fun b _ hb => Below.heap_setCell _ _ _ b hb⟩
    have hcx1 : ((W.drewN nq).setCell ⟨mb, 1, none⟩ (.int .i64 ((k + 1 : Nat) : Int))).cell? ⟨b, off + k, none⟩ = some (.int .i64 x) := cell_keepN hcx hk1 hbm
    obtain ⟨W2, hW2⟩ : ∃ W2, (W.drewN nq).setCell ⟨mb, 1, none⟩ (.int .i64 ((k + 1 : Nat) : Int)) = W2 := ⟨_, rfl⟩
    have hW3 : (W.drewN nq).setCell ⟨mb, 1, none⟩ (.int .i64 ((k : Int) + 1)) = W2 := hW2
    rw [hW2] at hM1 hk1 hcx1
    rw [hW3]
    obtain ⟨k2, _, hck2⟩ := hM1.num
    have hk2 : W2.cell? ⟨mb, 1, none⟩ = some (.int .i64 ((k : Int) + 1)) := by
      rw [← hW2]
      exact World.cell?_setCell_same' _ _ _ (by rw [cell_keep0 hck (Kept.drewN W nq)]; rfl)
    have hcl2 := hM1.lst
    have HM1 : Hid _ := hM1
    have HK1 : Hid _ := hk1
    clear hM1 hk1 hW2 hW3 hck2 hck hcl hcx HM
    have hpk := fun W => pick1_any x n W hn hxr
    go_quiet ((go_at_call 13; exact Calls.quiet_of_same (hpk _)))
    go_wp2
    go_ret
    have hr := pickI_range (c := x) hn
    exact ⟨_, rfl, hr.1, hr.2, MakerAt.keep HM1.out (Kept.drewN _ _), HK1.out.trans (Kept.drewN _ _)⟩
  · have hge : (k : Int) ≥ (l.length : Int) := by omega
    go_enter Try.func34, Try.ntmps34
    go_wp2
    go_quiet (fail)
    go_wp2
    go_ret
    exact ⟨0, rfl, by omega, hn, MakerAt.keep HM.out (Kept.drewN _ _), Kept.drewN _ _⟩

end Go.Proofs.Ytdbkdomhlkcbpaa

namespace Go.Scout
open Go.RowKit

/-! Rows of elements of several cells. -/

theorem length_flat {α : Type} (f : α → List Value) (s : Nat) (hf : ∀ x, (f x).length = s) : ∀ xs : List α, (xs.flatMap f).length = xs.length * s
  | [] => by simp
  | x :: xs => by
    rw [List.flatMap_cons, List.length_append, hf, length_flat f s hf xs, List.length_cons, Nat.add_mul, Nat.one_mul, Nat.add_comm]

theorem flat_at {α : Type} (f : α → List Value) (s : Nat) (hf : ∀ x, (f x).length = s) (z : α) : ∀ (xs : List α) (rest : List Value) (i j : Nat), i < xs.length → j < s → (xs.flatMap f ++ rest)[i * s + j]? = (f (xs.getD i z))[j]?
  | [], _, i, _, hi, _ => absurd hi (by simp)
  | x :: xs, rest, 0, j, _, hj => by
    rw [List.flatMap_cons, List.append_assoc, Nat.zero_mul, Nat.zero_add, List.getElem?_append_left (by rw [hf]; exact hj)]
    rfl
  | x :: xs, rest, i + 1, j, hi, hj => by
    have ih := flat_at f s hf z xs rest i j (by simpa using hi) hj
    rw [List.flatMap_cons, List.append_assoc, List.getElem?_append_right (by rw [hf, Nat.add_mul]; omega), hf]
    rw [show (i + 1) * s + j - s = i * s + j by rw [Nat.add_mul]; omega, ih]
    rfl

theorem flat_tail {α : Type} (f : α → List Value) (s : Nat) (hf : ∀ x, (f x).length = s) (xs : List α) (rest : List Value) (j : Nat) : (xs.flatMap f ++ rest)[xs.length * s + j]? = rest[j]? := by
  have hl := length_flat f s hf xs
  rw [List.getElem?_append_right (by omega), hl]
  congr 1
  omega

theorem flat_set {α : Type} (f : α → List Value) (s : Nat) (hf : ∀ x, (f x).length = s) (xs : List α) (rest : List Value) (j : Nat) (v : Value) : (xs.flatMap f ++ rest).set (xs.length * s + j) v = xs.flatMap f ++ rest.set j v := by
  have hl := length_flat f s hf xs
  rw [List.set_append_right _ _ (by omega), hl]
  congr 2
  omega

theorem made_drop (z : Array Value) (s n : Nat) (hs : z.size = s) (_h0 : 0 < s) : (madeCells z ((n + 2) * s)).toList.drop (n * s) = z.toList ++ z.toList := by
  apply List.ext_getElem?
  intro i
  rw [List.getElem?_drop]
  unfold madeCells
  rw [Array.toList_map, Array.toList_range, List.getElem?_map]
  have e2 : (n + 2) * s = n * s + 2 * s := by rw [Nat.add_mul]
  have hmod : ∀ i, (n * s + i) % s = i % s := fun i => by rw [Nat.add_comm, Nat.add_mul_mod_self_right]
  by_cases hi : i < 2 * s
  · rw [List.getElem?_range (by omega), Option.map_some, hs, hmod]
    by_cases h1 : i < s
    · rw [List.getElem?_append_left (by simpa [hs] using h1), Nat.mod_eq_of_lt h1]
      rw [getElem!_pos z i (by omega)]
      simp [hs, h1]
    · rw [List.getElem?_append_right (by simp [hs]; omega)]
      have : i % s = i - s := by rw [Nat.mod_eq_sub_mod (by omega), Nat.mod_eq_of_lt (by omega)]
      rw [this, getElem!_pos z (i - s) (by omega)]
      simp [hs, show i - s < s by omega]
  · have h2 : ¬ n * s + i < (n + 2) * s := by omega
    simp [h2]
    rw [hs]
    omega

def CondD.vals (c : CondD) : List Value := [.bool c.not, .int .i64 c.op, .int .i64 c.left, .bool c.const, .int .i64 c.right]
def zc : List Value := [.bool false, .int .i64 0, .int .i64 0, .bool false, .int .i64 0]
def ic : List Value := [.bool false, .int .i64 77777, .int .i64 0, .bool false, .int .i64 0]
def conds1 (cs : List CondD) : Array Value := (cs.flatMap CondD.vals ++ (zc ++ zc)).toArray
def conds2 (cs : List CondD) : Array Value := (cs.flatMap CondD.vals ++ (ic ++ zc)).toArray
def lentConds (cs : List CondD) : Array Value := (cs.flatMap CondD.vals ++ (ic ++ ic)).toArray
theorem cvals_len (c : CondD) : c.vals.length = 5 := rfl

theorem conds1_at (cs : List CondD) : (conds1 cs)[cs.length * 5 + 1]? = some (.int .i64 0) := by
  unfold conds1
  rw [List.getElem?_toArray, flat_tail _ 5 cvals_len]
  rfl
theorem conds2_at (cs : List CondD) : (conds2 cs)[(cs.length + 1) * 5 + 1]? = some (.int .i64 0) := by
  unfold conds2
  rw [List.getElem?_toArray, show (cs.length + 1) * 5 + 1 = cs.length * 5 + 6 by omega, flat_tail _ 5 cvals_len]
  rfl
theorem conds1_set (cs : List CondD) : (conds1 cs).setIfInBounds (cs.length * 5 + 1) (.int .i64 77777) = conds2 cs := by
  unfold conds1 conds2
  rw [List.setIfInBounds_toArray, flat_set _ 5 cvals_len]
  rfl
theorem conds2_set (cs : List CondD) : (conds2 cs).setIfInBounds ((cs.length + 1) * 5 + 1) (.int .i64 77777) = lentConds cs := by
  unfold conds2 lentConds
  rw [List.setIfInBounds_toArray, show (cs.length + 1) * 5 + 1 = cs.length * 5 + 6 by omega, flat_set _ 5 cvals_len]
  rfl
theorem setCell_conds1 (w : World) (cs : List CondD) (t : TypeId) : (w.alloc (.cells (conds1 cs) t)).setCell ⟨w.heap.size, cs.length * 5 + 1, none⟩ (.int .i64 77777) = w.alloc (.cells (conds2 cs) t) := by rw [setCell_alloc, conds1_set]
theorem setCell_conds2 (w : World) (cs : List CondD) (t : TypeId) : (w.alloc (.cells (conds2 cs) t)).setCell ⟨w.heap.size, (cs.length + 1) * 5 + 1, none⟩ (.int .i64 77777) = w.alloc (.cells (lentConds cs) t) := by rw [setCell_alloc, conds2_set]

def tabVals (t : TableD) : List Value := [.int .i64 t.cols, .int .i64 t.rows, .int .i64 t.k0, .int .i64 t.k1, .int .i64 t.k2, .int .i64 t.k3]
def zt : List Value := [.int .i64 0, .int .i64 0, .int .i64 0, .int .i64 0, .int .i64 0, .int .i64 0]
def it : List Value := [.int .i64 77777, .int .i64 0, .int .i64 0, .int .i64 0, .int .i64 0, .int .i64 0]
def tabs1 (ts : List TableD) : Array Value := (ts.flatMap tabVals ++ (zt ++ zt)).toArray
def tabs2 (ts : List TableD) : Array Value := (ts.flatMap tabVals ++ (it ++ zt)).toArray
def lentTabs (ts : List TableD) : Array Value := (ts.flatMap tabVals ++ (it ++ it)).toArray
theorem tvals_len (t : TableD) : (tabVals t).length = 6 := rfl

theorem tabs1_at (ts : List TableD) : (tabs1 ts)[ts.length * 6]? = some (.int .i64 0) := by
  unfold tabs1
  rw [List.getElem?_toArray, show ts.length * 6 = ts.length * 6 + 0 by omega, flat_tail _ 6 tvals_len]
  rfl
theorem tabs2_at (ts : List TableD) : (tabs2 ts)[(ts.length + 1) * 6]? = some (.int .i64 0) := by
  unfold tabs2
  rw [List.getElem?_toArray, show (ts.length + 1) * 6 = ts.length * 6 + 6 by omega, flat_tail _ 6 tvals_len]
  rfl
theorem tabs1_set (ts : List TableD) : (tabs1 ts).setIfInBounds (ts.length * 6) (.int .i64 77777) = tabs2 ts := by
  unfold tabs1 tabs2
  rw [List.setIfInBounds_toArray, show ts.length * 6 = ts.length * 6 + 0 by omega, flat_set _ 6 tvals_len]
  rfl
theorem tabs2_set (ts : List TableD) : (tabs2 ts).setIfInBounds ((ts.length + 1) * 6) (.int .i64 77777) = lentTabs ts := by
  unfold tabs2 lentTabs
  rw [List.setIfInBounds_toArray, show (ts.length + 1) * 6 = ts.length * 6 + 6 by omega, flat_set _ 6 tvals_len]
  rfl

/-- A copy of n elements, of s cells each, into a new row of n + 2. -/
theorem run_copy_new {P : Program} (w : World) (dT elem : TypeId) (s : Nat) (z : Array Value) (ao : Option Addr) (n cap : Nat) (cs : List Value) (hs0 : 0 < s) (hz : z.size = s) (hn : cs.length = n * s)
    (hc : ∀ j, j < n * s → ∃ b off, ao = some ⟨b, off, none⟩ ∧ w.cell? ⟨b, off + j, none⟩ = cs[j]?) (h1 : ∀ v ∈ cs, v.oneCell' = true)
    (hu : P.underlying dT = some (.slice elem)) (hs : (P.info? elem).map (·.size) = some s) (ty : TypeId) :
    (Builtin.copy_ #[dT, dT] ty #[.slice (some ⟨w.heap.size, 0, none⟩) (n + 2) (n + 2), .slice ao n cap]).run P (w.alloc (.cells (madeCells z ((n + 2) * s)) elem)) =
      .ok (goInt n) (w.alloc (.cells (cs ++ (z.toList ++ z.toList)).toArray elem)) := by
  have hsz : (madeCells z ((n + 2) * s)).size = (n + 2) * s := size_madeCells z _
  rw [run_copy_wide (w.alloc (.cells (madeCells z ((n + 2) * s)) elem)) dT dT ty elem s w.heap.size (n + 2) (n + 2) ao n cap (madeCells z ((n + 2) * s)) elem cs hu hs
    (heap_alloc_new _ _) (by omega) hn ?_ (by rw [hsz, hn, Nat.add_mul]; omega) h1, setRow_alloc, hn, made_drop z s n hz hs0]
  intro h0
  obtain ⟨b, off, rfl, _⟩ := hc 0 (by omega)
  refine ⟨⟨b, off, none⟩, rfl, fun j v hj => ?_⟩
  have hjl : j < n * s := by
    have := (List.getElem?_eq_some_iff.1 hj).1
    omega
  obtain ⟨b', off', e, hcell⟩ := hc j hjl
  cases e
  rw [addr_add]
  exact cell_alloc (hcell.trans hj) _

end Go.Scout

