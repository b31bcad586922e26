import Derived.Test.YtpkihnafdaedoaaProgG
namespace Go.Proofs.Ytpkihnafdaedoaa
open Go.RowKit Go.Scout

theorem check_of_cat {q : QueryV} {ts : List TableD} (h : catB ts = false) : (1 : Int) = q.check ts := QueryV.check_cat h
theorem check_of_query {q : QueryV} {ts : List TableD} (hc : catB ts = true) (hf : fullB q.src.xs q.whs q.keys.xs q.sums.xs q.sel.xs q.ord.xs = false) :
    q.check ts = if queryB ts q.src.xs q.whs q.group q.keys.xs q.sums.xs q.sel.xs q.ord.xs then 0 else 3 := check_query hc hf

set_option maxRecDepth 20000 in
set_option maxHeartbeats 4000000 in
theorem checkQ_any (ao : Option Addr) (cap : Nat) (ts : List TableD) (q : QueryV) (w : World) (hx : TablesAt w ao ts) (hq : q.At w) (hkc : q.keys.xs.length ≤ q.keys.cap) (hoc : q.ord.xs.length ≤ q.ord.cap) :
    Calls Try.prog 22 #[.slice ao ts.length cap, .agg q.cells] w fun e w' => e = .returned (.int .i64 (q.check ts)) ∧ Below w.heap.size w w' := by
  have hC1 := fun x (h : Below w.heap.size w x) => isCatalogP_any ao cap ts x (hx.below h)
  have hC2 := fun x (h : Below w.heap.size w x) => isFull_any q x (hq.wh.below h)
  have hC3 := fun (hc : catB ts = true) (hf : fullB q.src.xs q.whs q.keys.xs q.sums.xs q.sel.xs q.ord.xs = false) x (h : Below w.heap.size w x) => isQuery_any ao cap ts q x (hx.below h) (hq.below h) hc hf hkc hoc
  have e1 := @check_of_cat q ts
  have e2 := @QueryV.check_full q ts
  have e3 := @check_of_query q ts
  generalize q.check ts = R at *
  generalize fullB q.src.xs q.whs q.keys.xs q.sums.xs q.sel.xs q.ord.xs = FB at *
  generalize queryB ts q.src.xs q.whs q.group q.keys.xs q.sums.xs q.sel.xs q.ord.xs = QB at *
  generalize catB ts = CB at *
  obtain ⟨src, wad, wcap, wh, group, keys, sums, sel, ord⟩ := q
  clear hx hq hkc hoc
  unfold QueryV.cells IntsV.val at *
  simp only at *
  cases CB
  · have HF : Hid ((1 : Int) = R) := e1 rfl
    clear hC2 hC3 e1 e2 e3
    go_enter Try.func22, Try.ntmps22
    go_wp2_with fail
    refine (hC1 _ (below_alloc _ _)).mono ?_
    clear hC1
    rintro e w2 ⟨rfl, hb2⟩
    go_wp2
    go_ret
    exact ⟨ret_int HF.out, Below.step (below_alloc _ _) hb2⟩
  · cases FB
    · have HC3 : Hid _ := hC3 rfl rfl
      clear hC3
      have HF : Hid (R = if QB = true then 0 else 3) := e3 rfl rfl
      clear e1 e2 e3
      go_enter Try.func22, Try.ntmps22
      go_wp2_with fail
      refine (hC1 _ (below_alloc _ _)).mono ?_
      clear hC1
      rintro e w2 ⟨rfl, hb2⟩
      have hz : w.heap.size < w2.heap.size := by have := hb2.size; simp at this; omega
      have hcell := bcell hb2
      simp at hcell
      have k2 := Below.step (below_alloc _ _) hb2
      go_wp2_with fail
      refine (hC2 _ k2).mono ?_
      clear hC2
      rintro e w3 ⟨rfl, hb3⟩
      have hcell3 := bcell hb3
      have k3 := Below.step k2 hb3
      go_wp2_with fail
      refine (HC3.out _ k3).mono ?_
      clear HC3
      rintro e w4 ⟨rfl, hb4⟩
      cases QB
      · have HF' : Hid ((3 : Int) = R) := HF.out.symm
        go_wp2
        go_ret
        exact ⟨ret_int HF'.out, Below.step k3 hb4⟩
      · have HF' : Hid ((0 : Int) = R) := HF.out.symm
        go_wp2
        go_ret
        exact ⟨ret_int HF'.out, Below.step k3 hb4⟩
    · have HF : Hid ((2 : Int) = R) := e2 rfl rfl
      clear hC3 e1 e2 e3
      go_enter Try.func22, Try.ntmps22
      go_wp2_with fail
      refine (hC1 _ (below_alloc _ _)).mono ?_
      clear hC1
      rintro e w2 ⟨rfl, hb2⟩
      have hz : w.heap.size < w2.heap.size := by have := hb2.size; simp at this; omega
      have hcell := bcell hb2
      simp at hcell
      have k2 := Below.step (below_alloc _ _) hb2
      go_wp2_with fail
      refine (hC2 _ k2).mono ?_
      clear hC2
      rintro e w3 ⟨rfl, hb3⟩
      go_wp2
      go_ret
      exact ⟨ret_int HF.out, Below.step k2 hb3⟩

theorem scoutCheck_any (ao : Option Addr) (cap : Nat) (ts : List TableD) (q : QueryV) (w : World) (hx : TablesAt w ao ts) (hq : q.At w) (hkc : q.keys.xs.length ≤ q.keys.cap) (hoc : q.ord.xs.length ≤ q.ord.cap) :
    Calls Try.prog 7 #[.slice ao ts.length cap, .agg q.cells] w fun e w' => e = .returned (.int .i64 (q.check ts)) ∧ Below w.heap.size w w' := by
  have hC := fun x (h : Below w.heap.size w x) => checkQ_any ao cap ts q x (hx.below h) (hq.below h) hkc hoc
  generalize q.check ts = R at *
  obtain ⟨src, wad, wcap, wh, group, keys, sums, sel, ord⟩ := q
  clear hx hq hkc hoc
  unfold QueryV.cells IntsV.val at *
  simp only at *
  go_enter Try.func7, Try.ntmps7
  go_wp2_with fail
  refine (hC _ (below_alloc _ _)).mono ?_
  clear hC
  rintro e w2 ⟨rfl, hb2⟩
  go_wp2
  go_ret
  exact ⟨ret_int rfl, Below.step (below_alloc _ _) hb2⟩

end Go.Proofs.Ytpkihnafdaedoaa
