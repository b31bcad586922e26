import Derived.Test.YtpkihnafdaedoaaProgE
namespace Go.Proofs.Ytpkihnafdaedoaa
open Go.RowKit Go.Scout

theorem clausesL_bad {ls : List ClauseV} {n : Int} {k : Nat} (hk : k < ls.length) (h : clauseB (ls.getD k lz).cs n = false) : false = clausesB (ls.map ClauseV.cs) n :=
  (@clausesB_bad ⟨⟨none, 0, []⟩, none, 0, ls, false, ⟨none, 0, []⟩, ⟨none, 0, []⟩, ⟨none, 0, []⟩, ⟨none, 0, []⟩⟩ n k hk h).symm
theorem clausesL_good {ls : List ClauseV} {n : Int} (h : ∀ k, k < ls.length → clauseB (ls.getD k lz).cs n = true) : true = clausesB (ls.map ClauseV.cs) n :=
  (@clausesB_good ⟨⟨none, 0, []⟩, none, 0, ls, false, ⟨none, 0, []⟩, ⟨none, 0, []⟩, ⟨none, 0, []⟩, ⟨none, 0, []⟩⟩ n h).symm

set_option maxRecDepth 20000 in
set_option maxHeartbeats 4000000 in
theorem clausesFit_any (ao : Option Addr) (cap : Nat) (ls : List ClauseV) (n : Int) (w : World) (hx : ClausesAt w ao ls) :
    Calls Try.prog 64 #[.slice ao ls.length cap, .int .i64 n] w fun e w' => e = .returned (.bool (clausesB (ls.map ClauseV.cs) n)) ∧ Below w.heap.size w w' := by
  have hl := hx.1
  have HBD : Hid _ := @clausesL_bad ls n
  have HGD : Hid _ := @clausesL_good ls n
  generalize clausesB (ls.map ClauseV.cs) n = R at *
  go_enter Try.func64, Try.ntmps64
  go_wp2
  go_loopw [11] (fun i wr => ∃ k : Nat, k ≤ ls.length ∧ i = .int .i64 k ∧ Hid (∀ j, j < k → clauseB (ls.getD j lz).cs n = true) ∧ Below w.heap.size w wr) (fun i _ => ls.length - (intOf i).toNat)
  case atStart => exact ⟨0, Nat.zero_le _, rfl, fun j hj => absurd hj (by omega), Below.refl _ _⟩
  case round =>
    obtain ⟨k, hk, rfl, HP, hb⟩ := hrel
    by_cases hlt : k < ls.length
    · obtain ⟨b, off, rfl, hc⟩ := hx.2.1.get hlt
      have hck := cell_below hb (hc k hlt)
      have hcd := hx.2.2 k hlt
      have HBc : Hid (clauseB (ls.getD k lz).cs n = false → false = R) := fun h => HBD.out hlt h
      generalize hge : ls.getD k lz = cl at *
      have HGE : Hid (ls.getD k lz = cl) := hge
      clear hge hc hx
      obtain ⟨ad, cp, cs⟩ := cl
      unfold ClauseV.val at hck
      simp only at hck hcd
      have hcl2 := hcd.1
      have hbs := hb.size
      by_cases hc0 : cs.length = 0
      · have HF : Hid (false = R) := HBc.out (clauseB_none (by simp only; omega))
        go_wp2
        go_ret
        exact ⟨ret_bool HF.out, hb.alloc hbs _⟩
      · have hc0' : ((cs.length : Int) == 0) = false := by simpa using hc0
        have HC0 : Hid (¬ cs.length = 0) := hc0
        clear hc0
        go_wp2
        go_loopw [22] (fun i wr2 => ∃ m : Nat, m ≤ cs.length ∧ i = .int .i64 m ∧ Hid (∀ j, j < m → condB (cs.getD j cz) n = true) ∧ Below w.heap.size w wr2) (fun i _ => cs.length - (intOf i).toNat)
        case atStart => exact ⟨0, Nat.zero_le _, rfl, fun j hj => absurd hj (by omega), hb.alloc hbs _⟩
        case round =>
          obtain ⟨m, hm, rfl, HM, hb2⟩ := hrel
          have hbs2 := hb2.size
          clear hck hc0'
          by_cases hml : m < cs.length
          · obtain ⟨b2, off2, rfl, c0, c1, c2, c3, c4⟩ := hcd.2 m hml
            have d0 := cell_below hb2 c0
            have d1 := cell_below hb2 c1
            have d2 := cell_below hb2 c2
            have d3 := cell_below hb2 c3
            have d4 := cell_below hb2 c4
            clear c0 c1 c2 c3 c4
            have hC := fun x => condFits_any (cs.getD m cz) n x
            unfold CondD.val at hC
            generalize hgc : cs.getD m cz = cc at *
            have HGC : Hid (cs.getD m cz = cc) := hgc
            clear hgc
            cases hcb : condB cc n
            · rw [hcb] at hC
              have HF : Hid (false = R) := HBc.out (clauseB_bad hml (by rw [HGC.out]; exact hcb))
              go_wp2_with fail
              refine (hC _).mono ?_
              clear hC
              rintro e w4 ⟨rfl, hb4⟩
              go_wp2
              go_ret
              exact ⟨ret_bool HF.out, Below.step (hb2.alloc hbs2 _) hb4⟩
            · rw [hcb] at hC
              have HCB2 : Hid (condB cc n = true) := hcb
              clear hcb
              go_wp2_with fail
              refine (hC _).mono ?_
              clear hC
              rintro e w4 ⟨rfl, hb4⟩
              go_wp2
              go_roundw
              case rel =>
                refine ⟨m + 1, by omega, by go_num, fun j hj => ?_, Below.step (hb2.alloc hbs2 _) hb4⟩
                by_cases hjm : j = m
                · subst hjm; rw [HGC.out]; exact HCB2.out
                · exact HM.out j (by omega)
              case measure => simp [intOf]; omega
          · have HG : Hid (clauseB cs n = true) := clauseB_good (by have := HC0.out; omega) (fun j hj => HM.out j (by omega))
            go_wp2
            go_roundw
            case rel =>
              refine ⟨k + 1, by omega, by go_num, fun j hj => ?_, hb2⟩
              by_cases hjk : j = k
              · subst hjk; rw [HGE.out]; exact HG.out
              · exact HP.out j (by omega)
            case measure => simp [intOf]; omega
    · have HF : Hid (true = R) := HGD.out (fun j hj => HP.out j (by omega))
      go_wp2
      go_ret
      exact ⟨ret_bool HF.out, hb⟩

/-- What outputFits answers. -/
def fitsB (n : Int) (group : Bool) (keys sums sel : List Int) : Bool :=
  if group then decide (sel.length = 0) && allB sums n && allB keys n && apartB keys else decide (0 < sel.length) && allB sel n && decide (keys.length = 0) && decide (sums.length = 0)

set_option maxRecDepth 20000 in
set_option maxHeartbeats 4000000 in
theorem outputFits_any (q : QueryV) (n : Int) (w : World) (hk : q.keys.At w) (hs : q.sums.At w) (he : q.sel.At w) (hkc : q.keys.xs.length ≤ q.keys.cap) :
    Calls Try.prog 65 #[.agg q.cells, .int .i64 n] w fun e w' => e = .returned (.bool (fitsB n q.group q.keys.xs q.sums.xs q.sel.xs)) ∧ Below w.heap.size w w' := by
  obtain ⟨src, wad, wcap, wh, group, ⟨kad, kcap, keys⟩, ⟨uad, ucap, sums⟩, ⟨ead, ecap, sel⟩, ord⟩ := q
  unfold IntsV.At at hk hs he
  simp only at hk hs he hkc
  unfold QueryV.cells IntsV.val
  simp only
  have hkl := hk.1
  have hul := hs.1
  have hel := he.1
  have hC1 := fun x (h : Below w.heap.size w x) => allBelow_any ead ecap sel n x (IntsAt.below h he)
  have hC2 := fun x (h : Below w.heap.size w x) => allBelow_any uad ucap sums n x (IntsAt.below h hs)
  have hC3 := fun x (h : Below w.heap.size w x) => allBelow_any kad kcap keys n x (IntsAt.below h hk)
  have hC4 := fun x (h : Below w.heap.size w x) => allDifferent_any kad kcap keys x (IntsAt.below h hk) hkc
  clear hk hs he
  have HE : Hid (fitsB n group keys sums sel = fitsB n group keys sums sel) := rfl
  generalize hR : fitsB n group keys sums sel = R at *
  clear HE
  unfold fitsB at hR
  generalize allB sel n = A1 at *
  generalize allB sums n = A2 at *
  generalize allB keys n = A3 at *
  generalize apartB keys = A4 at *
  cases group
  · simp only [Bool.false_eq_true, if_false] at hR
    clear hC2 hC3 hC4
    by_cases h0 : 0 < sel.length
    · rw [decide_eq_true h0, Bool.true_and] at hR
      cases A1
      · have HF : Hid (false = R) := show false = R by rw [← hR]; rfl
        clear hR
        go_enter Try.func65, Try.ntmps65
        go_wp2_with fail
        refine (hC1 _ (below_alloc _ _)).mono ?_
        clear hC1
        rintro e w2 ⟨rfl, hb2⟩
        go_wp2
        go_ret
        exact ⟨ret_bool HF.out, Below.step (below_alloc _ _) hb2⟩
      · rw [Bool.true_and] at hR
        by_cases h1 : keys.length = 0
        · have h1' : ((keys.length : Int) == 0) = true := by simpa using h1
          have HF : Hid (((sums.length : Int) == 0) = R) := show ((sums.length : Int) == 0) = R by rw [← hR, decide_eq_true h1, Bool.true_and, eq0_len]
          clear hR h1
          go_enter Try.func65, Try.ntmps65
          go_wp2_with fail
          refine (hC1 _ (below_alloc _ _)).mono ?_
          clear hC1
          rintro e w2 ⟨rfl, hb2⟩
          have hcell := bcell hb2
          simp at hcell
          go_wp2
          go_ret
          exact ⟨ret_bool HF.out, Below.step (below_alloc _ _) hb2⟩
        · have h1' : ((keys.length : Int) == 0) = false := by simpa using h1
          have HF : Hid (false = R) := show false = R by rw [← hR, decide_eq_false h1]; rfl
          clear hR h1
          go_enter Try.func65, Try.ntmps65
          go_wp2_with fail
          refine (hC1 _ (below_alloc _ _)).mono ?_
          clear hC1
          rintro e w2 ⟨rfl, hb2⟩
          have hcell := bcell hb2
          simp at hcell
          go_wp2
          go_ret
          exact ⟨ret_bool HF.out, Below.step (below_alloc _ _) hb2⟩
    · have HF : Hid (false = R) := show false = R by rw [← hR, decide_eq_false h0]; rfl
      clear hR
      go_enter Try.func65, Try.ntmps65
      go_wp2
      go_ret
      exact ⟨ret_bool HF.out, below_alloc _ _⟩
  · simp only [if_true] at hR
    clear hC1
    by_cases h0 : 0 < sel.length
    · have HF : Hid (false = R) := show false = R by rw [← hR, decide_eq_false (by omega)]; rfl
      clear hR
      go_enter Try.func65, Try.ntmps65
      go_wp2
      go_ret
      exact ⟨ret_bool HF.out, below_alloc _ _⟩
    · rw [decide_eq_true (show sel.length = 0 by omega), Bool.true_and] at hR
      cases A2
      · have HF : Hid (false = R) := show false = R by rw [← hR]; rfl
        clear hR
        go_enter Try.func65, Try.ntmps65
        go_wp2_with fail
        refine (hC2 _ (below_alloc _ _)).mono ?_
        clear hC2
        rintro e w2 ⟨rfl, hb2⟩
        go_wp2
        go_ret
        exact ⟨ret_bool HF.out, Below.step (below_alloc _ _) hb2⟩
      · rw [Bool.true_and] at hR
        cases A3
        · have HF : Hid (false = R) := show false = R by rw [← hR]; rfl
          clear hR
          go_enter Try.func65, Try.ntmps65
          go_wp2_with fail
          refine (hC2 _ (below_alloc _ _)).mono ?_
          clear hC2
          rintro e w2 ⟨rfl, hb2⟩
          have hcell := bcell hb2
          simp at hcell
          go_wp2_with fail
          refine (hC3 _ (Below.step (below_alloc _ _) hb2)).mono ?_
          clear hC3
          rintro e w3 ⟨rfl, hb3⟩
          go_wp2
          go_ret
          exact ⟨ret_bool HF.out, Below.step (Below.step (below_alloc _ _) hb2) hb3⟩
        · have HF : Hid (A4 = R) := show A4 = R by rw [← hR, Bool.true_and]
          clear hR
          go_enter Try.func65, Try.ntmps65
          go_wp2_with fail
          refine (hC2 _ (below_alloc _ _)).mono ?_
          clear hC2
          rintro e w2 ⟨rfl, hb2⟩
          have hcell := bcell hb2
          simp at hcell
          go_wp2_with fail
          refine (hC3 _ (Below.step (below_alloc _ _) hb2)).mono ?_
          clear hC3
          rintro e w3 ⟨rfl, hb3⟩
          have hz : w.heap.size < w2.heap.size := by have := hb2.size; simp at this; omega
          have hcell3 := bcell hb3
          go_wp2_with fail
          refine (hC4 _ (Below.step (Below.step (below_alloc _ _) hb2) hb3)).mono ?_
          clear hC4
          rintro e w4 ⟨rfl, rfl⟩
          go_wp2
          go_ret
          exact ⟨ret_bool HF.out, Below.step (Below.step (below_alloc _ _) hb2) hb3⟩

end Go.Proofs.Ytpkihnafdaedoaa
