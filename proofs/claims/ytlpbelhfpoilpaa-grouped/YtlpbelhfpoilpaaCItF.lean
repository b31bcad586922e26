import Derived.Shelf.RegionOpen
import Derived.Test.YtlpbelhfpoilpaaCPickA
set_option linter.all false
namespace Go.Scout
open Go.RowKit

theorem pre_pick {pre : List IntsV} {x : IntsV} {rows : List (List Int)} (c : List Int) (h : (pre ++ [x]).map rowEl.key <+: rows) : (pre ++ [x]).map (fun r => pickN r.xs c) <+: rows.map (fun r => pickN r c) := by
  have h1 := List.IsPrefix.map (fun r => pickN r c) h
  rw [List.map_map] at h1
  exact h1

end Go.Scout
namespace Go.Proofs.Ytlpbelhfpoilpaa
open Go.RowKit Go.Scout Go.Shelf

attribute [local go_sem] Oper.semAt_some

set_option maxRecDepth 100000 in
set_option maxHeartbeats 8000000 in
theorem project_seq (bi bc gi : Nat) (lbi : Array Value) (c : IntsV) (rows : List (List Int)) (w0 : World) (hbi : bi < w0.heap.size) (hbc : bc < w0.heap.size)
    (hci : w0.cell? ⟨bi, 0, none⟩ = some (.func (.func gi) #[] lbi)) (hcc : w0.cell? ⟨bc, 0, none⟩ = some c.val) (hc : c.At w0) (hcl : c.xs.length ≤ 1000)
    (hseq : Seq rowEl Try.prog gi lbi rows w0) (egi : ∀ args w, (callFunc gi args).run Try.prog w = .ok (.enter gi args) w)
    (hin : ∀ r ∈ rows, allB c.xs r.length = true) :
    Seq (ownEl 3) Try.prog 95 #[.pointer (some ⟨bi, 0, none⟩), .pointer (some ⟨bc, 0, none⟩)] (rows.map fun r => pickN r c.xs) w0 := by
  intro l J W o hW ho hJ hY h0
  have hciW := (hW.cell (p := ⟨bi, 0, none⟩) hbi).trans hci
  have HY : Hid _ := hY
  have HO : Hid _ := ho
  have HW : Hid _ := hW
  have HJ : Hid _ := hJ
  have HIN : Hid _ := hin
  have HCC : Hid _ := hcc
  have HC : Hid _ := hc
  have HCL : Hid _ := hcl
  have HBC : Hid _ := hbc
  clear hY ho hW hJ hin hci hcc hc hcl hbc
  have hb1 : Below W.heap.size W (W.alloc (.cells #[.func (.yield l) #[] #[]] 73)) := below_alloc _ _
  have hci1 : (W.alloc (.cells #[.func (.yield l) #[] #[]] 73)).cell? ⟨bi, 0, none⟩ = some (.func (.func gi) #[] lbi) := (hb1.cell (p := ⟨bi, 0, none⟩) (Nat.lt_of_lt_of_le hbi HW.out.size)).trans hciW
  have hcy1 : (W.alloc (.cells #[.func (.yield l) #[] #[]] 73)).cell? ⟨W.heap.size, 0, none⟩ = some (.func (.yield l) #[] #[]) := by simp
  have hs1 : (W.alloc (.cells #[.func (.yield l) #[] #[]] 73)).heap.size = W.heap.size + 1 := by simp
  refine (callsIn_wide (n := 0)).1 (callsIn_of_wp_marks Try.func95 rfl trivial ?_ rfl)
  simp only [Try.ntmps95, List.size_toArray, List.length_cons, List.length_nil, Nat.reduceAdd, Nat.reduceSub, Array.replicate_succ, Array.replicate_zero, List.push_toArray, List.append_toArray, List.nil_append, List.cons_append]
  gi_wp2
  obtain ⟨w1, hw1⟩ : ∃ w1, W.alloc (.cells #[.func (.yield l) #[] #[]] 73) = w1 := ⟨_, rfl⟩
  rw [hw1] at hb1 hci1 hcy1 hs1
  rw [hw1]
  clear hw1
  have H1 : Hid (w1.heap.size = W.heap.size + 1) := hs1
  have H2 : Hid (Below W.heap.size W w1) := hb1
  clear hs1 hb1 hci1
  refine wp_range rowEl (gf := gi) (lb := lbi) rfl egi hseq (HW.out.trans (H2.out.mono HW.out.size)) rfl
    (fun pre o1 W' => ∃ zs, zs.map IntsV.xs = pre.map (fun r => pickN r.xs c.xs) ∧ J zs o1 W' ∧ Kept (fun b => ¬ o b) w1 W' ∧ ∀ b, o1 b → o b ∨ (w1.heap.size ≤ b ∧ b < W'.heap.size))
    o ?_ ?_ ?_ (fun x => { tmps := #[.func (.yield l) #[] #[], .pointer (some ⟨bi, 0, none⟩), .pointer (some ⟨bc, 0, none⟩), .pointer (some ⟨W.heap.size, 0, none⟩), x.val, .func (.func gi) #[] lbi, x.val, undef, undef, undef, undef, undef, undef], defers := [] }) ?assign ?body ?done
  · intro b hb
    exact ⟨(HO.out b hb).1, by have := (HO.out b hb).2; have := H1.out; omega⟩
  · rintro pre o1 A B ⟨zs, hz, hj, hk, hg⟩ hkk
    have h1 := H1.out
    exact ⟨zs, hz, HJ.out _ _ _ _ hj (hkk.mono fun b _ h => h.imp id (by omega)), hk.trans' hkk (fun b hb _ => .inr hb), fun b h => (hg b h).imp id (fun h => ⟨h.1, by have := hkk.size; omega⟩)⟩
  · exact ⟨[], rfl, HJ.out _ _ _ _ h0 (Kept.of_below H2.out fun b hb _ => hb), Kept.refl _ _, fun b h => .inl h⟩
  case assign =>
    intro l x W K hK
    gi_wp2
    exact hK
  case body =>
    rintro l2 pre x o1 Wr ⟨zs, hz, hj, hk, hg⟩ hpre hx hoff hsz
    have hkr : ∀ s, Kept s Wr Wr.drew := fun s => ⟨rfl, rfl, rfl, Nat.le_refl _, fun _ _ _ => rfl⟩
    obtain ⟨W2, hW2⟩ : ∃ W2, Wr.drew = W2 := ⟨_, rfl⟩
    rw [hW2] at hkr
    have HKR : Hid _ := hkr
    have hsr : W2.heap.size = Wr.heap.size := by rw [← hW2]; rfl
    have HSR : Hid _ := hsr
    replace hj := HJ.out _ _ _ _ hj (hkr _)
    replace hk := hk.trans (hkr _)
    replace hx := rowEl.keep hx (hkr (fun _ => True)).size (fun b hb _ => (hkr (fun _ => True)).block b hb trivial)
    rw [← hsr] at hg hsz
    clear hkr hsr
    have h1 := H1.out
    have hkz := hk.size
    have hbw : Below w0.heap.size w0 W2 := (HW.out.trans (H2.out.mono HW.out.size)).trans (hk.below (by have := HW.out.size; omega) (fun i hi h => by have := (HO.out i h).1; omega))
    have hcc2 : W2.cell? ⟨bc, 0, none⟩ = some c.val := (hbw.cell (p := ⟨bc, 0, none⟩) HBC.out).trans HCC.out
    have hc2 : c.At W2 := IntsAt.below hbw HC.out
    have hnW : ∀ b, W.heap.size ≤ b → ¬ o b := fun b hb h => by have := (HO.out b h).2; omega
    have hcy : W2.cell? ⟨W.heap.size, 0, none⟩ = some (.func (.yield l) #[] #[]) := cell_keep hcy1 hk (hnW _ (Nat.le_refl _))
    have hpk := pick_any x c W2 hx.1 hc2 (HIN.out _ (mem_of_pre hpre)) HCL.out
    obtain ⟨w3, hw3⟩ : ∃ w3, W2.alloc (.cells ((pickN x.xs c.xs).map (Value.int .i64)).toArray 3) = w3 := ⟨_, rfl⟩
    have hb3 : Below W2.heap.size W2 w3 := by rw [← hw3]; exact below_alloc _ _
    have hvl : (pickN x.xs c.xs).length = c.xs.length := by simp [pickN]
    have hat3 : (ownEl 3).At ⟨some ⟨W2.heap.size, 0, none⟩, (pickN x.xs c.xs).length, pickN x.xs c.xs⟩ w3 := by rw [← hw3]; exact own_of_alloc W2 _ _ (by rw [hvl]; have := HCL.out; omega)
    have hs3 : w3.heap.size = W2.heap.size + 1 := by rw [← hw3]; simp
    rw [hw3] at hpk
    have hcc3 := cell_below hb3 hcc2
    have hcy3 := cell_below hb3 hcy
    have hj3 := HJ.out _ _ _ _ hj (Kept.of_below hb3 (fun b hb _ => hb))
    have hp3 : (zs ++ [(⟨some ⟨W2.heap.size, 0, none⟩, (pickN x.xs c.xs).length, pickN x.xs c.xs⟩ : IntsV)]).map (ownEl 3).key <+: rows.map fun r => pickN r c.xs := by
      have e1 : (zs ++ [(⟨some ⟨W2.heap.size, 0, none⟩, (pickN x.xs c.xs).length, pickN x.xs c.xs⟩ : IntsV)]).map (ownEl 3).key = (pre ++ [x]).map (fun r => pickN r.xs c.xs) := by
        rw [List.map_append, List.map_append]
        show zs.map IntsV.xs ++ _ = _
        rw [hz]
        rfl
      rw [e1]
      exact pre_pick c.xs hpre
    have hno : ∀ b, o1 b → b < W2.heap.size := fun b h => by
      rcases hg b h with h | h
      · have := (HO.out b h).2; omega
      · exact h.2
    obtain ⟨fn, tmps, assign, body, hy, hRR⟩ := HY.out zs _ o1 w3 hj3 hp3 hat3 (fun b hb => by
      have hb' : some W2.heap.size = some b := hb
      cases hb'
      exact ⟨fun h => by have := hno _ h; omega, .inr (by omega)⟩) (by omega)
    have hy' : (Instr.yield l #[.slice (some ⟨W2.heap.size, 0, none⟩) c.xs.length c.xs.length]).run Try.prog w3 = .ok (.round l fn tmps assign body) w3 := by
      have := hy
      unfold ownEl IntsV.val at this
      simp only [hvl] at this
      exact this
    have HZ : Hid _ := hz
    have HK : Hid _ := hk
    have HG : Hid _ := hg
    have HN : Hid _ := hno
    have HB3 : Hid _ := hb3
    have HS3 : Hid _ := hs3
    have FIN : Hid (∀ (o2 : Nat → Prop) (W4 : World), J (zs ++ [⟨some ⟨W2.heap.size, 0, none⟩, (pickN x.xs c.xs).length, pickN x.xs c.xs⟩]) o2 W4 → Kept (fun b => ¬ o1 b) w3 W4 →
        (∀ b, o2 b → o1 b ∨ (w3.heap.size ≤ b ∧ b < W4.heap.size) ∨ ((ownEl 3).blk ⟨some ⟨W2.heap.size, 0, none⟩, (pickN x.xs c.xs).length, pickN x.xs c.xs⟩ = some b ∧ W.heap.size ≤ b)) →
        ∃ o2', (∃ zs, zs.map IntsV.xs = (pre ++ [x]).map (fun r => pickN r.xs c.xs) ∧ J zs o2' W4 ∧ Kept (fun b => ¬ o b) w1 W4 ∧ ∀ b, o2' b → o b ∨ (w1.heap.size ≤ b ∧ b < W4.heap.size)) ∧ Kept (fun b => ¬ o1 b) Wr W4 ∧
          ∀ b, o2' b → o1 b ∨ (Wr.heap.size ≤ b ∧ b < W4.heap.size) ∨ (rowEl.blk x = some b ∧ w1.heap.size ≤ b)) := by
      intro o2 W4 hj4 hk4 hg4
      have hs4 := hk4.size
      have hsr := HSR.out
      have hnew : ∀ b, o2 b → o1 b ∨ (W2.heap.size ≤ b ∧ b < W4.heap.size) := fun b hb => by
        rcases hg4 b hb with h | h | ⟨h, _⟩
        · exact .inl h
        · exact .inr ⟨by omega, h.2⟩
        · have hb' : some W2.heap.size = some b := h
          cases hb'
          exact .inr ⟨Nat.le_refl _, by omega⟩
      have hk24 : Kept (fun b => ¬ o1 b) W2 W4 := (Kept.of_below hb3 (fun b hb _ => hb)).trans hk4
      refine ⟨o2, ⟨_, ?_, hj4, hk.trans' hk24 ?_, ?_⟩, (HKR.out _).trans hk24, ?_⟩
      · rw [List.map_append, List.map_append, hz]
        rfl
      · intro b hb h h'
        rcases hg b h' with h' | h'
        · exact h h'
        · omega
      · intro b hb
        rcases hnew b hb with h | h
        · exact (hg b h).imp id (fun h => ⟨h.1, by omega⟩)
        · exact .inr ⟨by omega, h.2⟩
      · intro b hb
        rcases hnew b hb with h | h
        · exact .inl h
        · exact .inr (.inl ⟨by omega, h.2⟩)
    have hfol : Try.prog.follows .mixedOrders = true := by kernel_rfl
    clear hz hk hg hno hj hj3 hp3 hat3 hx hoff hpre hy hbw hc2 hnW hb3 hw3 hvl hs3
    obtain ⟨xad, xcap, xxs⟩ := x
    obtain ⟨cad, ccap, cxs⟩ := c
    unfold IntsV.val at *
    simp only at *
    gi_wp2
    gi_region_with_o (first | (refine ⟨trivial, rfl, CallsIn.inRound l2 (callsIn_wide.2 (hpk.mono ?_))⟩; rintro e w4 ⟨rfl, rfl⟩) | (refine ⟨rfl, hRR.mono ?_⟩; rintro e W4 ⟨rfl, o2, hj4, hk4, hg4⟩))
    all_goals gi_wp2
    all_goals exact FIN.out _ _ hj4 hk4 hg4
  case done =>
    rintro us o' W2 hus ⟨zs, hz, hj, hk, hg⟩ hk2 hg2 hD
    have h1 := H1.out
    gi_wp2
    have hnD : ¬ o' w1.heap.size := fun h => by
      rcases hg2 _ h with h | h
      · have := (HO.out _ h).2; omega
      · omega
    have hkD : Kept (fun b => b ≠ w1.heap.size) W2 (W2.putObj w1.heap.size (.deferred none)) := Kept.putObj _ _ (fun h => h rfl)
    refine ⟨by simp, .inl ⟨_, _, rfl, run_takeDeferred hD, ?_⟩⟩
    refine ⟨_, results_none rfl _ _ _, ⟨_, rfl⟩, zs, o', ?_, HJ.out _ _ _ _ hj (hkD.mono fun b _ h => ?_), ((Kept.of_below H2.out (fun b hb _ => hb)).trans' hk (fun b _ h => h)).trans' hkD (fun b hb _ => by omega), fun b h => (hg b h).imp id (fun h => ⟨by omega, by rw [World.putObj_size]; omega⟩)⟩
    · show zs.map IntsV.xs = _
      rw [hz, ← hus, List.map_map]
      rfl
    · rcases h with h | h
      · intro e; exact hnD (e ▸ h)
      · omega

end Go.Proofs.Ytlpbelhfpoilpaa

