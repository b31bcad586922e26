import Derived.Deep.Cut
import Derived.Test.YtlpbelhfpoilpaaCPuGGdAGdCGdD
set_option linter.all false
namespace Go.Scout
open Go.RowKit

/-- A group's row: its key, how many, their sum. -/
structure Tri where
  k : Int
  c : Nat
  s : Int

def Tri.row (t : Tri) : List Int := [t.k, (t.c : Int), t.s]
def Gr.tri (g : Gr) : Tri := ⟨g.key.getD 0 0, g.cnt, g.ss.getD 0 0⟩

theorem Gr.tri_row {g : Gr} (h1 : g.key.length = 1) (h2 : g.ss.length = 1) : g.row = g.tri.row := by
  obtain ⟨gk, gc, gss⟩ := g
  simp only at h1 h2
  obtain ⟨x, rfl⟩ := List.length_eq_one_iff.1 h1
  obtain ⟨y, rfl⟩ := List.length_eq_one_iff.1 h2
  rfl

theorem group_rows {k s : Int} {R : List (List Int)} (hv : ∀ r ∈ R, valI (r.getD s.toNat 0)) (hp : R.length ≤ 100000) : ∃ T : List Tri, (groupsN [k] [s] R).map Gr.row = T.map Tri.row ∧ (T.map Tri.k).Pairwise (· ≠ ·) ∧ (T.map fun t => (t.c : Int)).sum = R.length ∧ (T.map fun t => nnI t.s).sum = (R.map fun r => nnI (r.getD s.toNat 0)).sum ∧ ((∃ t ∈ T, t.s ≠ 1073741824) ↔ ∃ r ∈ R, r.getD s.toNat 0 ≠ 1073741824) ∧ ∀ t ∈ T, sumI t.s t.c := by
  have h := ginv (kc := [k]) hv hp
  refine ⟨(groupsN [k] [s] R).map Gr.tri, ?_, ?_, ?_, ?_, ?_, ?_⟩
  · rw [List.map_map]
    exact List.map_congr_left fun g hg => Gr.tri_row (h.each g hg).1 (h.each g hg).2.1
  · rw [List.map_map, List.pairwise_map]
    have ha := List.pairwise_map.1 h.apart
    refine ha.imp_of_mem fun {a b} ma mb hne e => hne ?_
    obtain ⟨x, hx⟩ := List.length_eq_one_iff.1 (h.each a ma).1
    obtain ⟨y, hy⟩ := List.length_eq_one_iff.1 (h.each b mb).1
    have e' : a.key.getD 0 0 = b.key.getD 0 0 := e
    rw [hx, hy] at e' ⊢
    have e2 : x = y := e'
    rw [e2]
  · rw [List.map_map]
    exact h.cnt
  · rw [List.map_map]
    exact h.sum
  · rw [← h.any]
    constructor
    · rintro ⟨t, ht, hn⟩
      obtain ⟨g, hg, rfl⟩ := List.mem_map.1 ht
      exact ⟨g, hg, hn⟩
    · rintro ⟨g, hg, hn⟩
      exact ⟨g.tri, List.mem_map.2 ⟨g, hg, rfl⟩, hn⟩
  · intro t ht
    obtain ⟨g, hg, rfl⟩ := List.mem_map.1 ht
    exact (h.each g hg).2.2.1

end Go.Scout

namespace Go.Scout
open Go.RowKit

def cntTo (T : List Tri) (i : Nat) : Int := ((T.take i).map fun t => (t.c : Int)).sum
def sumTo (T : List Tri) (i : Nat) : Int := ((T.take i).map fun t => nnI t.s).sum
def nullTo (T : List Tri) (i : Nat) : Bool := (T.take i).all fun t => decide (t.s = 1073741824)

theorem take_step {T : List Tri} {i : Nat} (h : i < T.length) : T.take (i + 1) = T.take i ++ [T[i]] := by
  rw [List.take_add_one, List.getElem?_eq_getElem h]
  rfl

theorem cntTo_step {T : List Tri} {i : Nat} (h : i < T.length) : cntTo T (i + 1) = cntTo T i + T[i].c := by
  unfold cntTo
  rw [take_step h, List.map_append, List.sum_append]
  simp only [List.map_cons, List.map_nil, List.sum_cons, List.sum_nil, Int.add_zero]

theorem sumTo_step {T : List Tri} {i : Nat} (h : i < T.length) : sumTo T (i + 1) = sumTo T i + nnI T[i].s := by
  unfold sumTo
  rw [take_step h, List.map_append, List.sum_append]
  simp only [List.map_cons, List.map_nil, List.sum_cons, List.sum_nil, Int.add_zero]

theorem nullTo_step {T : List Tri} {i : Nat} (h : i < T.length) : nullTo T (i + 1) = (nullTo T i && decide (T[i].s = 1073741824)) := by
  unfold nullTo
  rw [take_step h, List.all_append]
  simp only [List.all_cons, List.all_nil, Bool.and_true]

theorem cntTo_all (T : List Tri) : cntTo T T.length = (T.map fun t => (t.c : Int)).sum := by
  unfold cntTo
  rw [List.take_length]

theorem sumTo_all (T : List Tri) : sumTo T T.length = (T.map fun t => nnI t.s).sum := by
  unfold sumTo
  rw [List.take_length]

theorem cntTo_up {T : List Tri} : ∀ (d i : Nat), i + d ≤ T.length → cntTo T i ≤ cntTo T (i + d)
  | 0, _, _ => Int.le_refl _
  | d + 1, i, h => by
    have h1 := cntTo_up (T := T) d i (by omega)
    have h2 := cntTo_step (T := T) (i := i + d) (by omega)
    have e : i + (d + 1) = i + d + 1 := by omega
    rw [e, h2]
    omega

theorem cntTo_bound {T : List Tri} {i : Nat} (h : i ≤ T.length) : 0 ≤ cntTo T i ∧ cntTo T i ≤ (T.map fun t => (t.c : Int)).sum := by
  have h0 : cntTo T 0 = 0 := rfl
  have h1 := cntTo_up (T := T) i 0 (by omega)
  have h2 := cntTo_up (T := T) (T.length - i) i (by omega)
  have e : i + (T.length - i) = T.length := by omega
  rw [Nat.zero_add] at h1
  rw [e, cntTo_all] at h2
  omega

theorem sumTo_bound {T : List Tri} (hs : ∀ t ∈ T, sumI t.s t.c) : ∀ i : Nat, i ≤ T.length → -(1000 * cntTo T i) ≤ sumTo T i ∧ sumTo T i ≤ 1000 * cntTo T i
  | 0, _ => ⟨Int.le_refl _, Int.le_refl _⟩
  | i + 1, h => by
    have ih := sumTo_bound hs i (by omega)
    rw [cntTo_step (by omega), sumTo_step (by omega)]
    have hb := hs T[i] (List.getElem_mem _)
    unfold sumI at hb
    unfold nnI
    split <;> omega

/-- What the loop tells in the end is the one group's sum. -/
theorem sum_told {T : List Tri} {S : Int} {P : Prop} (h1 : nnI S = (T.map fun t => nnI t.s).sum) (h2 : S ≠ 1073741824 ↔ P) (h3 : (∃ t ∈ T, t.s ≠ 1073741824) ↔ P) : (if nullTo T T.length = true then 1073741824 else sumTo T T.length) = S := by
  have hn : nullTo T T.length = true ↔ ¬ P := by
    rw [← h3]
    unfold nullTo
    rw [List.take_length, List.all_eq_true]
    simp only [decide_eq_true_eq]
    constructor
    · rintro h ⟨t, ht, hne⟩
      exact hne (h t ht)
    · intro h t ht
      exact Classical.byContradiction fun hne => h ⟨t, ht, hne⟩
  split
  · rename_i h
    have hp := hn.1 h
    rw [← h2] at hp
    exact (Classical.byContradiction fun hne => hp fun e => hne e.symm)
  · rename_i h
    have hp : S ≠ 1073741824 := h2.2 (Classical.byContradiction fun hne => h (hn.2 hne))
    rw [sumTo_all, ← h1]
    unfold nnI
    rw [if_neg hp]

end Go.Scout

namespace Go.Scout
open Go.RowKit

/-- The cells of a row of groups' rows. -/
theorem tri_cells {w : World} {oad : Option Addr} {ys : List IntsV} {T : List Tri} (h : RowsAt w oad ys) (e : ys.map IntsV.xs = T.map Tri.row) (hp : 0 < T.length) :
    ∃ b off, oad = some ⟨b, off, none⟩ ∧ ∀ j (hj : j < T.length), ∃ bj oj cj, w.cell? ⟨b, off + j, none⟩ = some (.slice (some ⟨bj, oj, none⟩) 3 cj) ∧ w.cell? ⟨bj, oj, none⟩ = some (.int .i64 T[j].k) ∧ w.cell? ⟨bj, oj + 1, none⟩ = some (.int .i64 (T[j].c : Nat)) ∧ w.cell? ⟨bj, oj + 2, none⟩ = some (.int .i64 T[j].s) := by
  have hl : ys.length = T.length := by have := congrArg List.length e; simpa using this
  obtain ⟨b, off, rfl, hc⟩ := h.2.1.get (i := 0) (by omega)
  refine ⟨b, off, rfl, fun j hj => ?_⟩
  have hj' : j < ys.length := by omega
  have hx := hc j hj'
  have hat := h.2.2 j hj'
  have hxs : (ys.getD j iz).xs = T[j].row := by
    have e1 : (ys.map IntsV.xs)[j]? = (T.map Tri.row)[j]? := by rw [e]
    rw [List.getElem?_map, List.getElem?_map, List.getElem?_eq_getElem hj, List.getElem?_eq_getElem hj'] at e1
    simp only [Option.map_some, Option.some.injEq] at e1
    rw [show ys.getD j iz = ys[j] from by simp [List.getD, hj']]
    exact e1
  generalize ys.getD j iz = y at *
  obtain ⟨yad, ycap, yxs⟩ := y
  simp only at hxs
  subst hxs
  have hat' : IntsAt w yad T[j].row := hat
  obtain ⟨b2, o2, rfl, h2⟩ := hat'.get (i := 0) (by simp [Tri.row])
  exact ⟨b2, o2, ycap, hx, h2 0 (by simp [Tri.row]), h2 1 (by simp [Tri.row]), h2 2 (by simp [Tri.row])⟩

/-- The cells of the one row of all. -/
theorem one_cells {w : World} {oad : Option Addr} {ys : List IntsV} {a s : Int} (h : RowsAt w oad ys) (e : ys.map IntsV.xs = [[a, s]]) :
    ∃ b off b2 o2 c2, oad = some ⟨b, off, none⟩ ∧ w.cell? ⟨b, off, none⟩ = some (.slice (some ⟨b2, o2, none⟩) 2 c2) ∧ w.cell? ⟨b2, o2, none⟩ = some (.int .i64 a) ∧ w.cell? ⟨b2, o2 + 1, none⟩ = some (.int .i64 s) := by
  have hl : ys.length = 1 := by have := congrArg List.length e; simpa using this
  obtain ⟨y, rfl⟩ := List.length_eq_one_iff.1 hl
  obtain ⟨b, off, rfl, hc⟩ := h.2.1.get (i := 0) (by simp [Tri.row])
  obtain ⟨yad, ycap, yxs⟩ := y
  have hxs : yxs = [a, s] := by simpa using e
  subst hxs
  have hat : IntsAt w yad [a, s] := h.2.2 0 (by simp [Tri.row])
  obtain ⟨b2, o2, rfl, h2⟩ := hat.get (i := 0) (by simp [Tri.row])
  exact ⟨b, off, b2, o2, ycap, rfl, hc 0 (by simp [Tri.row]), h2 0 (by simp [Tri.row]), h2 1 (by simp [Tri.row])⟩

theorem tri_apart {T : List Tri} (h : (T.map Tri.k).Pairwise (· ≠ ·)) {i j : Nat} (hi : i < T.length) (hj : j < i) : T[i].k ≠ T[j].k := by
  have hj' : j < T.length := by omega
  have := List.pairwise_iff_getElem.1 h j i (by simpa using hj') (by simpa using hi) hj
  simpa using fun e => this (by simpa using e.symm)

end Go.Scout

namespace Go.Proofs.Ytlpbelhfpoilpaa
open Go.RowKit Go.Scout

set_option maxRecDepth 100000 in
set_option maxHeartbeats 8000000 in
theorem grouped_any (lo : Option Addr) (lc : Nat) (l : List Int) (key summed : Int) (w : World) (hx : IntsAt w lo l) (hl : ∀ x ∈ l, -9223372036854775808 ≤ x ∧ x ≤ 9223372036854775807) (hlo : ∀ a, lo = some a → a.block < w.heap.size)
    (h1 : -9223372036854775808 ≤ key ∧ key ≤ 9223372036854775807) (h2 : -9223372036854775808 ≤ summed ∧ summed ≤ 9223372036854775807) :
    Calls Try.prog 5 #[.slice lo l.length lc, .int .i64 key, .int .i64 summed] w fun e w' => e = .returned (.bool true) ∧ Below w.heap.size w w' := by
  have hm := made_any lo lc l w hx hl hlo
  clear hx hl hlo
  go_enter Try.func5, Try.ntmps5
  go_wp2_with fail
  refine hm.mono ?_
  rintro e w1 ⟨ts, q, db, co, d, cc, dc, rfl, hok, hts, hco, hcc, hls, hdb, hb1⟩
  have hbA := below_alloc w1 (.cells (caseA (.slice co ts.length cc) q (.slice d db.length dc)) 41)
  have hcat := cat_of_tabs hok.tabs.1 hok.tabs.2.1 hok.tabs.2.2
  have hsrc := hok.qry.src
  have hcol := columns_any co cc ts q (.slice d db.length dc) ⟨_, _, _, rfl⟩ _ (hts.below hbA) hcat (IntsAt.below hbA hls.at'.src) (by omega) hsrc.1
  have hwp : 0 < widthN ts q.src.xs := by have := (widthN_pos hcat hsrc.1 hsrc.2.1 (by omega)).1; omega
  have HOK : Hid _ := hok
  have HTS : Hid _ := hts
  have HLS : Hid _ := hls
  have HDB : Hid _ := hdb
  have HB1 : Hid _ := hb1
  have HBA : Hid _ := hbA
  clear hm hok hts hco hcc hls hdb hb1 hbA hcat hsrc
  generalize hn : widthN ts q.src.xs = n at *
  have HN : Hid _ := hn
  clear hn
  obtain ⟨⟨sad, scap, src⟩, wad, wcap, wh, group, ⟨kad, kcap, kxs⟩, ⟨uad, ucap, uxs⟩, ⟨lad, lcap, lxs⟩, ⟨oad, ocap, oxs⟩⟩ := q
  unfold caseA IntsV.val at hcol
  unfold caseA IntsV.val
  simp only at hcol
  simp only
  go_wp2_with fail
  refine hcol.mono ?_
  rintro e w3 ⟨rfl, hb3⟩
  clear hcol
  have hC3 : GB w3 w1.heap.size 41 #[.slice co ts.length cc, .slice sad src.length scap, .slice wad wh.length wcap, .bool group, .slice kad kxs.length kcap, .slice uad uxs.length ucap, .slice lad lxs.length lcap, .slice oad oxs.length ocap, .slice d db.length dc] :=
    (GB.alloc w1 _ _).keep (Kept.of_below (s := fun _ => True) hb3 (fun b hb _ => hb)) trivial
  have hK : Kept (fun b => b ≠ w1.heap.size) w3 w3 := Kept.refl _ _
  have HC : Hid _ := hC3
  have HK : Hid _ := hK
  have HB3 : Hid _ := hb3
  clear hC3 hK hb3
  go_upto_region 3 with fail
  go_cut [] from 24 (fun wx => GB wx w1.heap.size 41 #[.slice co ts.length cc, .slice sad src.length scap, .slice wad wh.length wcap, .bool false, .slice kad kxs.length kcap, .slice uad uxs.length ucap, .slice lad lxs.length lcap, .slice oad oxs.length ocap, .slice d db.length dc] ∧ Kept (fun b => b ≠ w1.heap.size) w3 wx)
  case first =>
    have t := GB.cell HC.out 3
    have z := GB.frozen HC.out 3
    simp only [List.getElem?_toArray, List.getElem?_cons_succ, List.getElem?_cons_zero] at t
    go_wp2_with fail
    go_meet
    exact ⟨GB.set HC.out 3 (.bool false), HK.out.trans (Kept.setCell _ _ _ (fun h => h rfl))⟩
  case rest =>
  have HC : Hid _ := hcut.1
  have HK : Hid _ := hcut.2
  clear hcut
  go_upto_region 4 with fail
  go_cut [] from 24 (fun wx => GB wx w1.heap.size 41 #[.slice co ts.length cc, .slice sad src.length scap, .slice wad wh.length wcap, .bool false, .slice none 0 0, .slice uad uxs.length ucap, .slice lad lxs.length lcap, .slice oad oxs.length ocap, .slice d db.length dc] ∧ Kept (fun b => b ≠ w1.heap.size) w3 wx)
  case first =>
    have t := GB.cell HC.out 4
    have z := GB.frozen HC.out 4
    simp only [List.getElem?_toArray, List.getElem?_cons_succ, List.getElem?_cons_zero] at t
    go_wp2_with fail
    go_meet
    exact ⟨GB.set HC.out 4 (.slice none 0 0), HK.out.trans (Kept.setCell _ _ _ (fun h => h rfl))⟩
  case rest =>
  have HC : Hid _ := hcut.1
  have HK : Hid _ := hcut.2
  clear hcut
  go_upto_region 5 with fail
  go_cut [] from 24 (fun wx => GB wx w1.heap.size 41 #[.slice co ts.length cc, .slice sad src.length scap, .slice wad wh.length wcap, .bool false, .slice none 0 0, .slice none 0 0, .slice lad lxs.length lcap, .slice oad oxs.length ocap, .slice d db.length dc] ∧ Kept (fun b => b ≠ w1.heap.size) w3 wx)
  case first =>
    have t := GB.cell HC.out 5
    have z := GB.frozen HC.out 5
    simp only [List.getElem?_toArray, List.getElem?_cons_succ, List.getElem?_cons_zero] at t
    go_wp2_with fail
    go_meet
    exact ⟨GB.set HC.out 5 (.slice none 0 0), HK.out.trans (Kept.setCell _ _ _ (fun h => h rfl))⟩
  case rest =>
  have HC : Hid _ := hcut.1
  have HK : Hid _ := hcut.2
  clear hcut
  go_upto_region 6 with fail
  go_cut [] from 24 (fun wx => GB wx w1.heap.size 41 #[.slice co ts.length cc, .slice sad src.length scap, .slice wad wh.length wcap, .bool false, .slice none 0 0, .slice none 0 0, .slice lad lxs.length lcap, .slice none 0 0, .slice d db.length dc] ∧ Kept (fun b => b ≠ w1.heap.size) w3 wx)
  case first =>
    have t := GB.cell HC.out 7
    have z := GB.frozen HC.out 7
    simp only [List.getElem?_toArray, List.getElem?_cons_succ, List.getElem?_cons_zero] at t
    go_wp2_with fail
    go_meet
    exact ⟨GB.set HC.out 7 (.slice none 0 0), HK.out.trans (Kept.setCell _ _ _ (fun h => h rfl))⟩
  case rest =>
  have HC : Hid _ := hcut.1
  have HK : Hid _ := hcut.2
  clear hcut
  go_upto_region 7 with fail
  go_cut [] from 24 (fun wx => ∃ B, GB wx w1.heap.size 41 #[.slice co ts.length cc, .slice sad src.length scap, .slice wad wh.length wcap, .bool false, .slice none 0 0, .slice none 0 0, .slice (some ⟨B, 0, none⟩) 1 1, .slice none 0 0, .slice d db.length dc] ∧ wx.heap[B]? = some (.cells #[.int .i64 (0)] 3) ∧ w3.heap.size ≤ B ∧ Kept (fun b => b ≠ w1.heap.size) w3 wx)
  case first =>
    have t := GB.cell HC.out 6
    have z := GB.frozen HC.out 6
    simp only [List.getElem?_toArray, List.getElem?_cons_succ, List.getElem?_cons_zero] at t
    have hal := Kept.alloc (s := fun _ => True) wc (.cells #[.int .i64 (0)] 3)
    have t' := cell_keep t hal trivial
    have hG' := GB.keep HC.out hal trivial
    have z' := GB.frozen hG' 6
    have hne : w1.heap.size ≠ wc.heap.size := fun e => by have := GB.lt HC.out; omega
    have HG' : Hid _ := hG'
    have HNE : Hid _ := hne
    clear hG' hne hal t z
    go_wp2_with fail
    go_meet
    refine ⟨wc.heap.size, GB.set HG'.out 6 (.slice (some ⟨wc.heap.size, 0, none⟩) 1 1), ?_, HK.out.size, (HK.out.trans (Kept.alloc _ _)).trans (Kept.setCell _ _ _ (fun h => h rfl))⟩
    exact (cells_other (fun e => HNE.out e.symm) _ _).trans (heap_alloc_new _ _)
  case rest =>
  obtain ⟨B0, hcC, hcB, hcl, hcK⟩ := hcut
  have HC : Hid _ := hcC
  have HSELB0 : Hid _ := hcB
  have HLB0 : Hid _ := hcl
  have HK : Hid _ := hcK
  clear hcC hcB hcl hcK
  have hBw : Below w1.heap.size w1 wc := (HBA.out.trans (HB3.out.mono HBA.out.size)).trans (HK.out.below (Nat.le_trans HBA.out.size HB3.out.size) (fun b hb => by omega))
  have hnil : ∀ W : World, IntsAt W none [] := fun W => ⟨by simp, fun i hi => by simp at hi⟩
  have hqA : (plainQ ⟨⟨sad, scap, src⟩, wad, wcap, wh, group, ⟨kad, kcap, kxs⟩, ⟨uad, ucap, uxs⟩, ⟨lad, lcap, lxs⟩, ⟨oad, ocap, oxs⟩⟩ B0).At wc := ⟨IntsAt.below hBw HLS.out.at'.src, HLS.out.at'.wh.below hBw, hnil _, hnil _, (one_int HSELB0.out (Array.getElem?_eq_some_iff.1 HSELB0.out).1).1, hnil _⟩
  have hr0 := rows_at wc ts ⟨⟨sad, scap, src⟩, wad, wcap, wh, group, ⟨kad, kcap, kxs⟩, ⟨uad, ucap, uxs⟩, ⟨lad, lcap, lxs⟩, ⟨oad, ocap, oxs⟩⟩ db co d cc dc B0 HOK.out HLS.out.src.2.2 (TablesAt.below hBw HTS.out) hqA (DbHad.below hBw HDB.out) wc (Below.refl _ _) wad wcap [] (by rw [List.append_nil]; exact hqA.wh) (by simp) (fun x hx => by simp at hx)
  rw [List.append_nil] at hr0
  obtain ⟨r0, hr0e⟩ : ∃ r0, rowsN { plainQ ⟨⟨sad, scap, src⟩, wad, wcap, wh, group, ⟨kad, kcap, kxs⟩, ⟨uad, ucap, uxs⟩, ⟨lad, lcap, lxs⟩, ⟨oad, ocap, oxs⟩⟩ B0 with wad := wad, wcap := wcap, wh := wh } db = r0 := ⟨_, rfl⟩
  have hr0' : Calls Try.prog 14 #[.agg #[.slice co ts.length cc, .slice sad src.length scap, .slice wad wh.length wcap, .bool false, .slice none 0 0, .slice none 0 0, .slice (some ⟨B0, 0, none⟩) 1 1, .slice none 0 0, .slice d db.length dc]] wc fun e w' => e = .returned (.tuple #[.int .i64 (rowsN { plainQ ⟨⟨sad, scap, src⟩, wad, wcap, wh, group, ⟨kad, kcap, kxs⟩, ⟨uad, ucap, uxs⟩, ⟨lad, lcap, lxs⟩, ⟨oad, ocap, oxs⟩⟩ B0 with wad := wad, wcap := wcap, wh := wh } db), .bool true]) ∧ Below wc.heap.size wc w' := hr0
  rw [hr0e] at hr0'
  have HR0 : Hid _ := hr0e
  have HBW : Hid _ := hBw
  clear hr0 hr0e hqA hBw hnil
  have t0 := GB.cell HC.out 0
  have t1 := GB.cell HC.out 1
  have t2 := GB.cell HC.out 2
  have t3 := GB.cell HC.out 3
  have t4 := GB.cell HC.out 4
  have t5 := GB.cell HC.out 5
  have t6 := GB.cell HC.out 6
  have t7 := GB.cell HC.out 7
  have t8 := GB.cell HC.out 8
  simp only [List.getElem?_toArray, List.getElem?_cons_succ, List.getElem?_cons_zero] at t0 t1 t2 t3 t4 t5 t6 t7 t8
  go_wp2_with fail
  refine hr0'.mono ?_
  rintro e X1 ⟨rfl, hx1⟩
  clear hr0' t0 t1 t2 t3 t4 t5 t6 t7 t8
  have hC1 := GB.keep HC.out (Kept.of_below (s := fun _ => True) hx1 (fun b hb _ => hb)) trivial
  have hB1w : Below w1.heap.size w1 X1 := HBW.out.trans (hx1.mono HBW.out.size)
  have HBX1 : Hid _ := hB1w
  have HC : Hid _ := hC1
  have hK1 : Kept (fun b => b ≠ w1.heap.size) X1 X1 := Kept.refl _ _
  have HK : Hid _ := hK1
  clear hC1 hB1w hK1 hx1
  go_upto_region 9 with fail
  go_cut [] from 24 (fun wx => GB wx w1.heap.size 41 #[.slice co ts.length cc, .slice sad src.length scap, .slice wad wh.length wcap, .bool false, .slice none 0 0, .slice none 0 0, .slice none 0 0, .slice none 0 0, .slice d db.length dc] ∧ Kept (fun b => b ≠ w1.heap.size) X1 wx)
  case first =>
    have t := GB.cell HC.out 6
    have z := GB.frozen HC.out 6
    simp only [List.getElem?_toArray, List.getElem?_cons_succ, List.getElem?_cons_zero] at t
    go_wp2_with fail
    go_meet
    exact ⟨GB.set HC.out 6 (.slice none 0 0), HK.out.trans (Kept.setCell _ _ _ (fun h => h rfl))⟩
  case rest =>
  have HC : Hid _ := hcut.1
  have HK : Hid _ := hcut.2
  clear hcut
  go_upto_region 10 with fail
  go_cut [] from 24 (fun wx => GB wx w1.heap.size 41 #[.slice co ts.length cc, .slice sad src.length scap, .slice wad wh.length wcap, .bool true, .slice none 0 0, .slice none 0 0, .slice none 0 0, .slice none 0 0, .slice d db.length dc] ∧ Kept (fun b => b ≠ w1.heap.size) X1 wx)
  case first =>
    have t := GB.cell HC.out 3
    have z := GB.frozen HC.out 3
    simp only [List.getElem?_toArray, List.getElem?_cons_succ, List.getElem?_cons_zero] at t
    go_wp2_with fail
    go_meet
    exact ⟨GB.set HC.out 3 (.bool true), HK.out.trans (Kept.setCell _ _ _ (fun h => h rfl))⟩
  case rest =>
  have HC : Hid _ := hcut.1
  have HK : Hid _ := hcut.2
  clear hcut
  have hpk := pick1_any summed n wc hwp h2
  go_upto_region 11 with fail
  go_cut [] from 24 (fun wx => ∃ B, GB wx w1.heap.size 41 #[.slice co ts.length cc, .slice sad src.length scap, .slice wad wh.length wcap, .bool true, .slice none 0 0, .slice (some ⟨B, 0, none⟩) 1 1, .slice none 0 0, .slice none 0 0, .slice d db.length dc] ∧ wx.heap[B]? = some (.cells #[.int .i64 (pickI summed n)] 3) ∧ X1.heap.size ≤ B ∧ Kept (fun b => b ≠ w1.heap.size) X1 wx)
  case first =>
    have t := GB.cell HC.out 5
    have z := GB.frozen HC.out 5
    simp only [List.getElem?_toArray, List.getElem?_cons_succ, List.getElem?_cons_zero] at t
    have hal := Kept.alloc (s := fun _ => True) wc (.cells #[.int .i64 (pickI summed n)] 3)
    have t' := cell_keep t hal trivial
    have hG' := GB.keep HC.out hal trivial
    have z' := GB.frozen hG' 5
    have hne : w1.heap.size ≠ wc.heap.size := fun e => by have := GB.lt HC.out; omega
    have HG' : Hid _ := hG'
    have HNE : Hid _ := hne
    clear hG' hne hal t z
    go_wp2_with (refine hpk.mono ?_; rintro e wp ⟨rfl, hwq⟩; rw [hwq]; clear hwq wp)
    go_meet
    refine ⟨wc.heap.size, GB.set HG'.out 5 (.slice (some ⟨wc.heap.size, 0, none⟩) 1 1), ?_, HK.out.size, (HK.out.trans (Kept.alloc _ _)).trans (Kept.setCell _ _ _ (fun h => h rfl))⟩
    exact (cells_other (fun e => HNE.out e.symm) _ _).trans (heap_alloc_new _ _)
  case rest =>
  obtain ⟨B1, hcC, hcB, hcl, hcK⟩ := hcut
  have HC : Hid _ := hcC
  have HSELB1 : Hid _ := hcB
  have HLB1 : Hid _ := hcl
  have HK : Hid _ := hcK
  clear hcC hcB hcl hcK
  have hBy : Below w1.heap.size w1 wc := HBX1.out.trans (HK.out.below HBX1.out.size (fun b hb => by omega))
  have hnil : ∀ W : World, IntsAt W none [] := fun W => ⟨by simp, fun i hi => by simp at hi⟩
  have hps := pickI_range (c := summed) hwp
  have hlt1 := (Array.getElem?_eq_some_iff.1 HSELB1.out).1
  have hqG : (groupQ ⟨⟨sad, scap, src⟩, wad, wcap, wh, group, ⟨kad, kcap, kxs⟩, ⟨uad, ucap, uxs⟩, ⟨lad, lcap, lxs⟩, ⟨oad, ocap, oxs⟩⟩ ⟨none, 0, []⟩ ⟨some ⟨B1, 0, none⟩, 1, [pickI summed n]⟩).At wc := ⟨IntsAt.below hBy HLS.out.at'.src, HLS.out.at'.wh.below hBy, hnil _, (one_int HSELB1.out hlt1).1, hnil _, hnil _⟩
  have hg1 := group_at wc ts ⟨⟨sad, scap, src⟩, wad, wcap, wh, group, ⟨kad, kcap, kxs⟩, ⟨uad, ucap, uxs⟩, ⟨lad, lcap, lxs⟩, ⟨oad, ocap, oxs⟩⟩ db co d cc dc ⟨none, 0, []⟩ ⟨some ⟨B1, 0, none⟩, 1, [pickI summed n]⟩ w1.heap.size _ HC.out HOK.out HLS.out.src.2.2 (TablesAt.below hBy HTS.out) hqG (Nat.le_refl _) (DbHad.below hBy HDB.out) ⟨by simp, rfl, by decide⟩ ⟨by simp, by show allB [pickI summed n] (widthN ts src) = true; rw [HN.out]; exact allB_one hps⟩ (case_groups HOK.out _ _)
  have hg1' : Calls Try.prog 17 #[.slice co ts.length cc, .agg #[.slice sad src.length scap, .slice wad wh.length wcap, .bool true, .slice none 0 0, .slice (some ⟨B1, 0, none⟩) 1 1, .slice none 0 0, .slice none 0 0], .slice d db.length dc] wc fun e w' => ∃ (ad : Option Addr) (cap : Nat) (ys : List IntsV), e = .returned (.tuple #[.slice ad ys.length cap, .int .i64 0]) ∧ ys.map IntsV.xs = (groupsN [] [pickI summed n] ((combosN src db).filter (holdsB wh))).map Gr.row ∧ RowsOff w' w1.heap.size ad ys ∧ Below wc.heap.size wc w' := hg1
  have HBY : Hid _ := hBy
  have HPS : Hid _ := hps
  clear hg1 hqG hlt1 hps hBy
  have t0 := GB.cell HC.out 0
  have t1 := GB.cell HC.out 1
  have t2 := GB.cell HC.out 2
  have t3 := GB.cell HC.out 3
  have t4 := GB.cell HC.out 4
  have t5 := GB.cell HC.out 5
  have t6 := GB.cell HC.out 6
  have t7 := GB.cell HC.out 7
  have t8 := GB.cell HC.out 8
  simp only [List.getElem?_toArray, List.getElem?_cons_succ, List.getElem?_cons_zero] at t0 t1 t2 t3 t4 t5 t6 t7 t8
  go_wp2_with fail
  refine hg1'.mono ?_
  rintro e X2 ⟨oad1, ocap1, ones, rfl, hones, hoff1, hx2⟩
  clear hg1' t0 t1 t2 t3 t4 t5 t6 t7 t8
  have hC2 := GB.keep HC.out (Kept.of_below (s := fun _ => True) hx2 (fun b hb _ => hb)) trivial
  have hsB1 := (hx2.block _ (Array.getElem?_eq_some_iff.1 HSELB1.out).1).trans HSELB1.out
  have hB2w : Below w1.heap.size w1 X2 := HBY.out.trans (hx2.mono HBY.out.size)
  have hlx : X1.heap.size ≤ X2.heap.size := Nat.le_trans HK.out.size hx2.size
  have HBX2 : Hid _ := hB2w
  have HC : Hid _ := hC2
  have HSELB1 : Hid _ := hsB1
  have HONES : Hid _ := hones
  have HOFF1 : Hid _ := hoff1
  have hK2 : Kept (fun b => b ≠ w1.heap.size) X2 X2 := Kept.refl _ _
  have HK : Hid _ := hK2
  clear hC2 hB2w hK2 hx2 hsB1 hones hoff1 hlx
  have hpk := pick1_any key n X2 hwp h1
  go_upto_region 13 with fail
  go_cut [] from 24 (fun wx => ∃ B, GB wx w1.heap.size 41 #[.slice co ts.length cc, .slice sad src.length scap, .slice wad wh.length wcap, .bool true, .slice (some ⟨B, 0, none⟩) 1 1, .slice (some ⟨B1, 0, none⟩) 1 1, .slice none 0 0, .slice none 0 0, .slice d db.length dc] ∧ wx.heap[B]? = some (.cells #[.int .i64 (pickI key n)] 3) ∧ X2.heap.size ≤ B ∧ Kept (fun b => b ≠ w1.heap.size) X2 wx)
  case first =>
    have t := GB.cell HC.out 4
    have z := GB.frozen HC.out 4
    simp only [List.getElem?_toArray, List.getElem?_cons_succ, List.getElem?_cons_zero] at t
    have hal := Kept.alloc (s := fun _ => True) X2 (.cells #[.int .i64 (pickI key n)] 3)
    have t' := cell_keep t hal trivial
    have hG' := GB.keep HC.out hal trivial
    have z' := GB.frozen hG' 4
    have hne : w1.heap.size ≠ X2.heap.size := fun e => by have := GB.lt HC.out; omega
    have HG' : Hid _ := hG'
    have HNE : Hid _ := hne
    clear hG' hne hal t z
    go_wp2_with (refine hpk.mono ?_; rintro e wp ⟨rfl, hwq⟩; rw [hwq]; clear hwq wp)
    go_meet
    refine ⟨X2.heap.size, GB.set HG'.out 4 (.slice (some ⟨X2.heap.size, 0, none⟩) 1 1), ?_, HK.out.size, (HK.out.trans (Kept.alloc _ _)).trans (Kept.setCell _ _ _ (fun h => h rfl))⟩
    exact (cells_other (fun e => HNE.out e.symm) _ _).trans (heap_alloc_new _ _)
  case rest =>
  obtain ⟨B2, hcC, hcB, hcl, hcK⟩ := hcut
  have hne1 : B1 ≠ w1.heap.size := fun e => by
    have a := HSELB1.out
    rw [e, HC.out] at a
    simp at a
  have hsB1 := (hcK.block _ (Array.getElem?_eq_some_iff.1 HSELB1.out).1 hne1).trans HSELB1.out
  have hoff1 := HOFF1.out.keep hcK
  have hBy : Below w1.heap.size w1 wc := HBX2.out.trans (hcK.below HBX2.out.size (fun b hb => by omega))
  have HC : Hid _ := hcC
  have hnil : ∀ W : World, IntsAt W none [] := fun W => ⟨by simp, fun i hi => by simp at hi⟩
  have hpk2 := pickI_range (c := key) hwp
  have hlt1 := (Array.getElem?_eq_some_iff.1 hsB1).1
  have hlt2 := (Array.getElem?_eq_some_iff.1 hcB).1
  have hqG : (groupQ ⟨⟨sad, scap, src⟩, wad, wcap, wh, group, ⟨kad, kcap, kxs⟩, ⟨uad, ucap, uxs⟩, ⟨lad, lcap, lxs⟩, ⟨oad, ocap, oxs⟩⟩ ⟨some ⟨B2, 0, none⟩, 1, [pickI key n]⟩ ⟨some ⟨B1, 0, none⟩, 1, [pickI summed n]⟩).At wc := ⟨IntsAt.below hBy HLS.out.at'.src, HLS.out.at'.wh.below hBy, (one_int hcB hlt2).1, (one_int hsB1 hlt1).1, hnil _, hnil _⟩
  have hg1 := group_at wc ts ⟨⟨sad, scap, src⟩, wad, wcap, wh, group, ⟨kad, kcap, kxs⟩, ⟨uad, ucap, uxs⟩, ⟨lad, lcap, lxs⟩, ⟨oad, ocap, oxs⟩⟩ db co d cc dc ⟨some ⟨B2, 0, none⟩, 1, [pickI key n]⟩ ⟨some ⟨B1, 0, none⟩, 1, [pickI summed n]⟩ w1.heap.size _ hcC HOK.out HLS.out.src.2.2 (TablesAt.below hBy HTS.out) hqG (Nat.le_refl _) (DbHad.below hBy HDB.out) ⟨by simp, by show allB [pickI key n] (widthN ts src) = true; rw [HN.out]; exact allB_one hpk2, apartB_one _⟩ ⟨by simp, by show allB [pickI summed n] (widthN ts src) = true; rw [HN.out]; exact allB_one HPS.out⟩ (case_groups HOK.out _ _)
  have hg1' : Calls Try.prog 17 #[.slice co ts.length cc, .agg #[.slice sad src.length scap, .slice wad wh.length wcap, .bool true, .slice (some ⟨B2, 0, none⟩) 1 1, .slice (some ⟨B1, 0, none⟩) 1 1, .slice none 0 0, .slice none 0 0], .slice d db.length dc] wc fun e w' => ∃ (ad : Option Addr) (cap : Nat) (ys : List IntsV), e = .returned (.tuple #[.slice ad ys.length cap, .int .i64 0]) ∧ ys.map IntsV.xs = (groupsN [pickI key n] [pickI summed n] ((combosN src db).filter (holdsB wh))).map Gr.row ∧ RowsOff w' w1.heap.size ad ys ∧ Below wc.heap.size wc w' := hg1
  have HBY : Hid _ := hBy
  have HOFF1 : Hid _ := hoff1
  clear hg1 hqG hlt1 hlt2 hpk2 hBy hcB hcl hcK hsB1 hne1 hoff1 hcC hpk
  have t0 := GB.cell HC.out 0
  have t1 := GB.cell HC.out 1
  have t2 := GB.cell HC.out 2
  have t3 := GB.cell HC.out 3
  have t4 := GB.cell HC.out 4
  have t5 := GB.cell HC.out 5
  have t6 := GB.cell HC.out 6
  have t7 := GB.cell HC.out 7
  have t8 := GB.cell HC.out 8
  simp only [List.getElem?_toArray, List.getElem?_cons_succ, List.getElem?_cons_zero] at t0 t1 t2 t3 t4 t5 t6 t7 t8
  go_wp2_with fail
  refine hg1'.mono ?_
  rintro e X3 ⟨oad2, ocap2, some', rfl, hsome, hoff2, hx3⟩
  clear hg1' t0 t1 t2 t3 t4 t5 t6 t7 t8
  have hr1 : RowsAt X3 oad1 ones := (HOFF1.out.keep (Kept.of_below (s := fun b => b ≠ w1.heap.size) hx3 (fun b hb _ => hb))).rows
  have hr2 : RowsAt X3 oad2 some' := hoff2.rows
  have hB3w : Below w1.heap.size w1 X3 := HBY.out.trans (hx3.mono HBY.out.size)
  have HBX3 : Hid _ := hB3w
  have HSOME : Hid _ := hsome
  have HR1 : Hid _ := hr1
  have HR2 : Hid _ := hr2
  clear hB3w hx3 hsome hoff2 hr1 hr2
  have hck := case_kept HOK.out (s := pickI summed n) (by show 0 ≤ _ ∧ _ < widthN ts src; rw [HN.out]; exact HPS.out)
  obtain ⟨R, hR⟩ : ∃ R, (combosN src db).filter (holdsB wh) = R := ⟨_, rfl⟩
  have hones := HONES.out
  have hsome := HSOME.out
  have hr0e : R.length = r0 := by rw [← hR]; exact HR0.out
  have hck' : (∀ r ∈ R, valI (r.getD (pickI summed n).toNat 0)) ∧ R.length ≤ 20000 := by rw [← hR]; exact hck
  rw [hR] at hones hsome
  obtain ⟨S, hS, hS1, hS2⟩ := groups_one hck'.1 (by omega)
  obtain ⟨T, hT, hT1, hT2, hT3, hT4, hT5⟩ := group_rows (k := pickI key n) hck'.1 (by omega)
  rw [hS] at hones
  rw [hT] at hsome
  have hol : ones.length = 1 := by have e := congrArg List.length hones; rw [List.length_map] at e; exact e
  have hsl : some'.length = T.length := by have e := congrArg List.length hsome; rw [List.length_map, List.length_map] at e; exact e
  have hTl : T.length ≤ 1000000 := by
    have e := congrArg List.length hT
    rw [List.length_map, List.length_map] at e
    have h := groupsN_len [pickI key n] [pickI summed n] R
    omega
  have hb1 := broad_any oad1 ocap1 ones 2 X3 HR1.out (by omega) (fun y hy => by
    have hm : y.xs ∈ ones.map IntsV.xs := List.mem_map.2 ⟨y, hy, rfl⟩
    rw [hones, List.mem_singleton] at hm
    rw [hm]
    rfl)
  have hb2 := broad_any oad2 ocap2 some' 3 X3 HR2.out (by omega) (fun y hy => by
    have hm : y.xs ∈ some'.map IntsV.xs := List.mem_map.2 ⟨y, hy, rfl⟩
    rw [hsome] at hm
    obtain ⟨t, _, ht⟩ := List.mem_map.1 hm
    rw [← ht]
    rfl)
  have HNUM : Hid (r0 = R.length ∧ R.length ≤ 20000 ∧ ones.map IntsV.xs = [[(R.length : Int), S]] ∧ some'.map IntsV.xs = T.map Tri.row ∧ (T.map Tri.k).Pairwise (· ≠ ·) ∧ (T.map fun t => (t.c : Int)).sum = R.length ∧ (∀ t ∈ T, sumI t.s t.c) ∧ T.length ≤ 1000000 ∧ some'.length = T.length ∧ ones.length = 1) := ⟨hr0e.symm, hck'.2, hones, hsome, hT1, hT2, hT5, hTl, hsl, hol⟩
  have HTOLD : Hid ((if nullTo T T.length = true then 1073741824 else sumTo T T.length) = S) := sum_told (hS1.trans hT3.symm) hS2 hT4
  clear hck hck' hones hsome hr0e hS hS1 hS2 hT hT1 hT2 hT3 hT4 hT5 hol hsl hTl hR
  go_wp2_with fail
  refine hb1.mono ?_
  rintro e wp ⟨rfl, hwq⟩
  rw [hwq]
  clear hwq wp hb1
  go_wp2_with fail
  refine hb2.mono ?_
  rintro e wp ⟨rfl, hwq⟩
  rw [hwq]
  clear hwq wp hb2
  go_upto_region 17 with fail
  obtain ⟨n1, n2, n3, n4, n5, n6, n7, n8, n9, n10⟩ := HNUM.out
  subst n1
  rw [n10, n9]
  obtain ⟨b1, o1, b2, o2, c2, rfl, k1, k2, k3⟩ := one_cells HR1.out n3
  have HK3 : Hid _ := k3
  have HK1 : Hid _ := k1
  have HT4 : Hid _ := n4
  have HT5 : Hid _ := n5
  have HT6 : Hid _ := n6
  have HT7 : Hid _ := n7
  clear n3 n4 n5 n6 n7 n9 n10 k3 HNUM HR1
  go_wp2_with fail
  clear k1 k2
  go_loopw [17, 18, 19, 20] (fun c s nl i wr => ∃ k : Nat, k ≤ T.length ∧ i = .int .i64 k ∧ c = .int .i64 (cntTo T k) ∧ s = .int .i64 (sumTo T k) ∧ nl = .bool (nullTo T k) ∧ ∃ n, wr = X3.drewN n) (fun _ _ _ i _ => T.length - (intOf i).toNat)
  case atStart => exact ⟨0, Nat.zero_le _, rfl, rfl, rfl, rfl, 0, rfl⟩
  case round =>
    obtain ⟨k, hk, rfl, rfl, rfl, rfl, dn, rfl⟩ := hrel
    by_cases hlt : k < T.length
    · obtain ⟨b, off, rfl, hcs⟩ := tri_cells HR2.out HT4.out (by omega)
      obtain ⟨bk, ok, ck, q0, q1, q2, q3⟩ := hcs k hlt
      have hc1 := cntTo_bound (T := T) (i := k) (by omega)
      have hc2 := cntTo_bound (T := T) (i := k + 1) (by omega)
      have hs1 := sumTo_bound HT7.out k (by omega)
      have hs2 := sumTo_bound HT7.out (k + 1) (by omega)
      have ec := cntTo_step hlt
      have es := sumTo_step hlt
      have en := nullTo_step hlt
      have HAP : Hid (∀ m (hm : m < k), (T[k].k == (T[m]'(by omega)).k) = false) := fun m hm => by
        have h := tri_apart HT5.out hlt hm
        simpa using h
      rw [HT6.out] at hc1 hc2
      rw [ec] at hc2 hs2
      rw [es] at hs2
      have hcw : wrap64 (cntTo T k + T[k].c) = cntTo T k + T[k].c := by unfold wrap64; omega
      have hnn : T[k].s = 1073741824 ∨ nnI T[k].s = T[k].s := by unfold nnI; split <;> simp_all
      have HSW : Hid (T[k].s ≠ 1073741824 → wrap64 (sumTo T k + T[k].s) = sumTo T k + T[k].s) := fun hne => by
        have e := hnn.resolve_left hne
        rw [e] at hs2
        unfold wrap64
        omega
      have HCS : Hid _ := hcs
      have HEC : Hid _ := ec
      have HES : Hid _ := es
      have HEN : Hid _ := en
      have HQ : Hid _ := And.intro q2 q3
      have HCW : Hid _ := hcw
      clear hcs ec es en hc1 hc2 hs1 hs2 q2 q3 hcw hnn
      go_wp2_with fail
      go_loopw [21] (fun i wr => ∃ m : Nat, m ≤ k ∧ i = .int .i64 m ∧ ∃ n, wr = X3.drewN n) (fun i _ => k - (intOf i).toNat)
      case atStart => exact ⟨0, Nat.zero_le _, rfl, dn, rfl⟩
      case round =>
        obtain ⟨m, hm, rfl, n', rfl⟩ := hrel
        by_cases hml : m < k
        · have hmm : m < T.length := by omega
          obtain ⟨bm, om, cm, p0, p1, -, -⟩ := HCS.out m hmm
          have he' := HAP.out m hml
          generalize T[k].k = tk at *
          generalize T[m].k = tm at *
          go_wp2_with fail
          go_quiet (fail)
          go_wp2_with fail
          go_roundw
          case rel => exact ⟨m + 1, by omega, by go_num, _, rfl⟩
          case measure => simp [intOf]; omega
        · obtain ⟨q2, q3⟩ := HQ.out
          have hcw := HCW.out
          have hsw := HSW.out
          have ec := HEC.out
          have es := HES.out
          have en := HEN.out
          generalize hcn : ((T[k].c : Nat) : Int) = tc at *
          generalize hsn : T[k].s = ts' at *
          clear HCW HSW HEC HES HEN HQ HCS HAP q1
          by_cases hz : ts' = 1073741824
          · subst hz
            clear hsw
            have HE : Hid _ := And.intro ec (And.intro es en)
            clear ec es en hcn hsn
            go_wp2_with fail
            go_roundw
            case rel =>
              refine ⟨k + 1, by omega, by go_num, by rw [HE.out.1, hcw], ?_, ?_, _, rfl⟩
              · rw [HE.out.2.1]; simp [nnI]
              · rw [HE.out.2.2]; simp
            case measure => simp [intOf]; omega
          · have hsw' := hsw hz
            have HE : Hid _ := And.intro ec (And.intro es en)
            have HZ : Hid _ := hz
            have hz1 : (ts' == 1073741824) = false := by simpa using hz
            have hz2 : (ts' != 1073741824) = true := by simpa using hz
            clear ec es en hsw hcn hsn hz
            go_wp2_with fail
            go_roundw
            case rel =>
              refine ⟨k + 1, by omega, by go_num, by rw [HE.out.1, hcw], ?_, ?_, _, rfl⟩
              · rw [HE.out.2.1]; unfold nnI; rw [if_neg HZ.out, hsw']
              · rw [HE.out.2.2]; simp; exact fun _ => HZ.out
            case measure => simp [intOf]; omega
    · obtain rfl : k = T.length := by omega
      have k1 := HK1.out
      have k3 := HK3.out
      have hT := HTOLD.out
      have hca : cntTo T T.length = R.length := (cntTo_all T).trans HT6.out
      rw [hca]
      have HF : Hid (Below w.heap.size w (X3.drewN dn)) := HB1.out.trans ((below_drewN HBX3.out dn).mono HB1.out.size)
      generalize nullTo T T.length = nl at *
      generalize sumTo T T.length = sm at *
      cases nl
      · simp only [Bool.false_eq_true, if_false] at hT
        subst hT
        go_wp2_with fail
        go_ret
        exact ⟨rfl, HF.out⟩
      · simp only [if_true] at hT
        subst hT
        go_wp2_with fail
        go_ret
        exact ⟨rfl, HF.out⟩

end Go.Proofs.Ytlpbelhfpoilpaa

