import Derived.Test.YtpkihnafdaedoaaProgF
namespace Go.Proofs.Ytpkihnafdaedoaa
open Go.RowKit Go.Scout

theorem restB_fits (n : Int) (group : Bool) (keys sums sel ord : List Int) :
    restB n group keys sums sel ord = (fitsB n group keys sums sel && (allB ord (outN group keys sums sel) && apartB ord)) := by
  unfold restB fitsB
  generalize allB ord (outN group keys sums sel) = O
  generalize apartB ord = P
  cases group
  · by_cases hs : sel.length = 0
    · have : ¬ 0 < sel.length := by omega
      simp [hs]
    · have h1 : decide (sel.length = 0) = false := decide_eq_false hs
      have h2 : decide (0 < sel.length) = true := decide_eq_true (by omega)
      rw [h1, h2]
      by_cases hk : keys.length = 0
      · by_cases hu : sums.length = 0
        · have hk' : keys = [] := List.eq_nil_of_length_eq_zero hk
          have hu' : sums = [] := List.eq_nil_of_length_eq_zero hu
          subst hk' hu'
          have ha : apartB [] = true := by decide
          rw [ha]
          cases allB sel n <;> cases O <;> cases P <;> rfl
        · rw [decide_eq_false hu, decide_eq_false (show ¬ keys.length + sums.length = 0 by omega)]
          simp
      · rw [decide_eq_false hk, decide_eq_false (show ¬ keys.length + sums.length = 0 by omega)]
        simp
  · by_cases hs : sel.length = 0
    · have hs' : sel = [] := List.eq_nil_of_length_eq_zero hs
      subst hs'
      have h1 : allB [] n = true := rfl
      rw [h1]
      cases allB sums n <;> cases allB keys n <;> cases apartB keys <;> cases O <;> cases P <;> rfl
    · rw [decide_eq_false hs]
      simp

/-- What isQuery answers. -/
def queryB (ts : List TableD) (src : List Int) (wh : List (List CondD)) (group : Bool) (keys sums sel ord : List Int) : Bool :=
  decide (0 < src.length) && (allB src ts.length && (clausesB wh (widthN ts src) && (fitsB (widthN ts src) group keys sums sel && (allB ord (outN group keys sums sel) && apartB ord))))

theorem check_query {ts : List TableD} {src : List Int} {wh : List (List CondD)} {group : Bool} {keys sums sel ord : List Int} (hc : catB ts = true) (hf : fullB src wh keys sums sel ord = false) :
    checkN ts src wh group keys sums sel ord = if queryB ts src wh group keys sums sel ord then 0 else 3 := by
  unfold checkN queryB
  rw [if_neg (by simp [hc]), if_neg (by simp [hf]), restB_fits]
  generalize (fitsB (widthN ts src) group keys sums sel && (allB ord (outN group keys sums sel) && apartB ord)) = X
  by_cases h0 : 0 < src.length
  · rw [decide_eq_true h0]
    cases allB src ts.length <;> cases clausesB wh (widthN ts src) <;> cases X <;> simp [h0]
  · rw [decide_eq_false h0]
    simp [h0]

set_option maxRecDepth 20000 in
set_option maxHeartbeats 8000000 in
theorem isQuery_any (ao : Option Addr) (cap : Nat) (ts : List TableD) (q : QueryV) (w : World) (hx : TablesAt w ao ts) (hq : q.At w) (hc : catB ts = true)
    (hf : fullB q.src.xs q.whs q.keys.xs q.sums.xs q.sel.xs q.ord.xs = false) (hkc : q.keys.xs.length ≤ q.keys.cap) (hoc : q.ord.xs.length ≤ q.ord.cap) :
    Calls Try.prog 43 #[.slice ao ts.length cap, .agg q.cells] w fun e w' => e = .returned (.bool (queryB ts q.src.xs q.whs q.group q.keys.xs q.sums.xs q.sel.xs q.ord.xs)) ∧ Below w.heap.size w w' := by
  have hlen : ¬ (5 < q.src.xs.length ∨ 8 < q.wh.length ∨ 8 < q.sel.xs.length ∨ 4 < q.keys.xs.length ∨ 4 < q.sums.xs.length ∨ 4 < q.ord.xs.length) := by
    intro h
    rw [QueryV.full_eq, decide_eq_true h, Bool.true_or] at hf
    cases hf
  have hOW := fun x => outWidth_any q x (by omega) (by omega)
  have hOF := fun n x (h : Below w.heap.size w x) => outputFits_any q n x (IntsAt.below h hq.keys) (IntsAt.below h hq.sums) (IntsAt.below h hq.sel) hkc
  unfold queryB
  obtain ⟨src, wad, wcap, wh, group, keys, sums, sel, ord⟩ := q
  have hsrc : IntsAt w src.ad src.xs := hq.src
  have hord : IntsAt w ord.ad ord.xs := hq.ord
  have hwh : ClausesAt w wad wh := hq.wh
  have hwhs : (QueryV.mk src wad wcap wh group keys sums sel ord).whs = wh.map ClauseV.cs := rfl
  simp only [hwhs] at *
  clear hwhs hq hf
  unfold QueryV.cells IntsV.val at *
  simp only at *
  have h1 : src.xs.length ≤ 5 := by omega
  have hcl1 := fun x (h : Below w.heap.size w x) => allBelow_any src.ad src.cap src.xs ts.length x (hsrc.below h)
  have hcl2 := fun n x (h : Below w.heap.size w x) => clausesFit_any wad wcap wh n x (hwh.below h)
  have hcl3 := fun x (h : Below w.heap.size w x) => allBelow_any ord.ad ord.cap ord.xs (outN group keys.xs sums.xs sel.xs) x (hord.below h)
  have hcl4 := fun x (h : Below w.heap.size w x) => allDifferent_any ord.ad ord.cap ord.xs x (hord.below h) hoc
  generalize hR : (decide (0 < src.xs.length) && (allB src.xs ts.length && (clausesB (wh.map ClauseV.cs) (widthN ts src.xs) && (fitsB (widthN ts src.xs) group keys.xs sums.xs sel.xs && (allB ord.xs (outN group keys.xs sums.xs sel.xs) && apartB ord.xs))))) = R
  by_cases h0 : 0 < src.xs.length
  · rw [decide_eq_true h0, Bool.true_and] at hR
    have h0' : ((src.xs.length : Int) == 0) = false := by rw [beq_eq_false_iff_ne]; omega
    cases ha : allB src.xs ts.length
    · rw [ha] at hcl1 hR
      have HR : Hid (false = R) := hR
      clear hR
      go_enter Try.func43, Try.ntmps43
      go_wp2_with fail
      refine (hcl1 _ (below_alloc _ _)).mono ?_
      rintro e w2 ⟨rfl, hb2⟩
      go_wp2
      go_ret
      exact ⟨ret_bool HR.out, Below.step (below_alloc _ _) hb2⟩
    · have hcc := fun x (h : Below w.heap.size w x) => countColumns_any ao cap ts src.ad src.cap src.xs x (hx.below h) hc (hsrc.below h) h1 ha
      rw [ha] at hcl1 hR
      clear ha hc
      rw [Bool.true_and] at hR
      have HR : Hid _ := hR
      clear hR
      generalize widthN ts src.xs = N at *
      have hcl2 := hcl2 N
      have hOF := hOF N
      generalize clausesB (wh.map ClauseV.cs) N = CB at *
      generalize fitsB N group keys.xs sums.xs sel.xs = FB at *
      clear hx hsrc hord hwh hkc hoc
      go_enter Try.func43, Try.ntmps43
      go_wp2_with fail
      refine (hcl1 _ (below_alloc _ _)).mono ?_
      clear hcl1
      rintro e w2 ⟨rfl, hb2⟩
      have hz : w.heap.size < w2.heap.size := by have := hb2.size; simp at this; omega
      have hcell := bcell hb2
      simp at hcell
      have k2 := Below.step (below_alloc _ _) hb2
      go_wp2_with fail
      refine (hcc _ k2).mono ?_
      clear hcc
      rintro e w3 ⟨rfl, rfl⟩
      go_wp2_with fail
      refine (hcl2 _ k2).mono ?_
      clear hcl2
      rintro e w4 ⟨rfl, hb4⟩
      have k4 := Below.step k2 hb4
      have f0 : w4.cell? ⟨w.heap.size, 0, none⟩ = some (.slice src.ad src.xs.length src.cap) := cell_below hb4 (by rw [hcell _ _ (by omega)]; simp)
      have f1 : w4.cell? ⟨w.heap.size, 1, none⟩ = some (.slice wad wh.length wcap) := cell_below hb4 (by rw [hcell _ _ (by omega)]; simp)
      have f2 : w4.cell? ⟨w.heap.size, 2, none⟩ = some (.bool group) := cell_below hb4 (by rw [hcell _ _ (by omega)]; simp)
      have f3 : w4.cell? ⟨w.heap.size, 3, none⟩ = some (.slice keys.ad keys.xs.length keys.cap) := cell_below hb4 (by rw [hcell _ _ (by omega)]; simp)
      have f4 : w4.cell? ⟨w.heap.size, 4, none⟩ = some (.slice sums.ad sums.xs.length sums.cap) := cell_below hb4 (by rw [hcell _ _ (by omega)]; simp)
      have f5 : w4.cell? ⟨w.heap.size, 5, none⟩ = some (.slice sel.ad sel.xs.length sel.cap) := cell_below hb4 (by rw [hcell _ _ (by omega)]; simp)
      have f6 : w4.cell? ⟨w.heap.size, 6, none⟩ = some (.slice ord.ad ord.xs.length ord.cap) := cell_below hb4 (by rw [hcell _ _ (by omega)]; simp)
      clear hcell hb4 k2 hb2
      cases CB
      · go_wp2
        go_ret
        exact ⟨ret_bool HR.out, k4⟩
      · go_wp2_with fail
        refine (hOF _ k4).mono ?_
        clear hOF
        rintro e w5 ⟨rfl, hb5⟩
        have k5 := Below.step k4 hb5
        have g0 := cell_below hb5 f0
        have g1 := cell_below hb5 f1
        have g2 := cell_below hb5 f2
        have g3 := cell_below hb5 f3
        have g4 := cell_below hb5 f4
        have g5 := cell_below hb5 f5
        have g6 := cell_below hb5 f6
        clear f0 f1 f2 f3 f4 f5 f6 hb5 k4
        cases FB
        · go_wp2
          go_ret
          exact ⟨ret_bool HR.out, k5⟩
        · go_wp2_with fail
          generalize outN group keys.xs sums.xs sel.xs = O at *
          generalize allB ord.xs O = AO at *
          generalize apartB ord.xs = PO at *
          refine wp_region_below (by kernel_rfl) (by kernel_rfl) ?_
          go_big_quiet_want
          refine ⟨.pointer (some ⟨w.heap.size, 6, none⟩), fun x hx => ?_, ?_⟩
          · go_simp
          simp only [Act.put, List.setIfInBounds_toArray, List.set_cons_succ, List.set_cons_zero]
          go_big_quiet_on
          go_big_quiet_want
          refine ⟨.slice ord.ad ord.xs.length ord.cap, fun x hx => ?_, ?_⟩
          · have e6 := cell_below hx g6
            go_simp
          simp only [Act.put, List.setIfInBounds_toArray, List.set_cons_succ, List.set_cons_zero]
          go_big_quiet_on
          go_big_quiet_want
          refine ⟨.agg #[.slice src.ad src.xs.length src.cap, .slice wad wh.length wcap, .bool group, .slice keys.ad keys.xs.length keys.cap, .slice sums.ad sums.xs.length sums.cap, .slice sel.ad sel.xs.length sel.cap, .slice ord.ad ord.xs.length ord.cap], fun x hx => ?_, ?_⟩
          · have e0 := cell_below hx g0
            have e1 := cell_below hx g1
            have e2 := cell_below hx g2
            have e3 := cell_below hx g3
            have e4 := cell_below hx g4
            have e5 := cell_below hx g5
            have e6 := cell_below hx g6
            go_simp
          simp only [Act.put, List.setIfInBounds_toArray, List.set_cons_succ, List.set_cons_zero]
          go_big_quiet_on
          go_big_quiet_want
          refine ⟨.int .i64 O, fun x hx => ?_, ?_⟩
          · have hC := Calls.within hx (hOW x)
            go_simp
          simp only [Act.put, List.setIfInBounds_toArray, List.set_cons_succ, List.set_cons_zero]
          go_big_quiet_on
          go_big_quiet_want
          refine ⟨.bool AO, fun x hx => ?_, ?_⟩
          · have hC := Calls.within hx (hcl3 x (Below.step k5 hx))
            go_simp
          simp only [Act.put, List.setIfInBounds_toArray, List.set_cons_succ, List.set_cons_zero]
          go_big_quiet_on
          go_big_quiet_want
          refine ⟨.bool AO, fun x hx => ?_, ?_⟩
          · go_simp
          simp only [Act.put, List.setIfInBounds_toArray, List.set_cons_succ, List.set_cons_zero]
          go_big_quiet_on
          cases AO
          · go_big_quiet_skip
            go_big_quiet_skip
            go_big_quiet_skip
            go_big_quiet_want
            refine ⟨.bool false, fun x hx => ?_, ?_⟩
            · go_simp
            simp only [Act.put, List.setIfInBounds_toArray, List.set_cons_succ, List.set_cons_zero]
            go_big_quiet_on
            go_big_quiet_want
            refine ⟨.bool false, fun x hx => ?_, ?_⟩
            · go_simp
            simp only [Act.put, List.setIfInBounds_toArray, List.set_cons_succ, List.set_cons_zero]
            go_big_quiet_on
            refine wpQuiet_nil ?_
            intro x hx
            go_wp2
            go_ret
            exact ⟨ret_bool HR.out, Below.step k5 hx⟩
          · go_big_quiet_want
            refine ⟨.pointer (some ⟨w.heap.size, 6, none⟩), fun x hx => ?_, ?_⟩
            · go_simp
            simp only [Act.put, List.setIfInBounds_toArray, List.set_cons_succ, List.set_cons_zero]
            go_big_quiet_on
            go_big_quiet_want
            refine ⟨.slice ord.ad ord.xs.length ord.cap, fun x hx => ?_, ?_⟩
            · have e6 := cell_below hx g6
              go_simp
            simp only [Act.put, List.setIfInBounds_toArray, List.set_cons_succ, List.set_cons_zero]
            go_big_quiet_on
            go_big_quiet_want
            refine ⟨.bool PO, fun x hx => ?_, ?_⟩
            · have hC := Calls.within_same hx (hcl4 x (Below.step k5 hx))
              go_simp
            simp only [Act.put, List.setIfInBounds_toArray, List.set_cons_succ, List.set_cons_zero]
            go_big_quiet_on
            go_big_quiet_want
            refine ⟨.bool PO, fun x hx => ?_, ?_⟩
            · go_simp
            simp only [Act.put, List.setIfInBounds_toArray, List.set_cons_succ, List.set_cons_zero]
            go_big_quiet_on
            go_big_quiet_want
            refine ⟨.bool PO, fun x hx => ?_, ?_⟩
            · go_simp
            simp only [Act.put, List.setIfInBounds_toArray, List.set_cons_succ, List.set_cons_zero]
            go_big_quiet_on
            refine wpQuiet_nil ?_
            intro x hx
            go_wp2
            go_ret
            exact ⟨ret_bool HR.out, Below.step k5 hx⟩
  · have h0' : ((src.xs.length : Int) == 0) = true := by rw [beq_iff_eq]; omega
    rw [decide_eq_false h0, Bool.false_and] at hR
    have HR : Hid (false = R) := hR
    clear hR
    clear hOW hOF hcl1 hcl2 hcl3 hcl4
    go_enter Try.func43, Try.ntmps43
    go_wp2
    go_ret
    exact ⟨ret_bool HR.out, below_alloc _ _⟩

end Go.Proofs.Ytpkihnafdaedoaa
