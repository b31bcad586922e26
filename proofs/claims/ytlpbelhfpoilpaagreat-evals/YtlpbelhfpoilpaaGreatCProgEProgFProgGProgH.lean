import Derived.Test.YtlpbelhfpoilpaaGreatCProgAProgBProgCProgD
set_option linter.all false
namespace Go.Proofs.YtlpbelhfpoilpaaGreat
open Go.RowKit Go.Scout

theorem isFull1_any (ad : Option Addr) (n cap : Nat) (w : World) :
    Calls Tryz.prog 60 #[.agg #[.slice ad n cap]] w fun e w' => e = .returned (.bool (decide (3 < n))) ∧ Below w.heap.size w w' := by
  go_enter Tryz.func60, Tryz.ntmps60
  go_wp2
  go_ret
  exact ⟨ret_bool (decide_eq_decide.2 (by omega)), below_alloc _ _⟩

set_option maxHeartbeats 2000000 in
theorem indexC_any (ao : Option Addr) (cap : Nat) (ls : List ClauseV) (w : World) (hx : ClausesAt w ao ls) :
    Calls Tryz.prog 78 #[.slice ao ls.length cap, .func (.func 60) #[] #[]] w fun e w' => ∃ r, e = .returned (.int .i64 r) ∧ foundAt r (ls.any fun c => decide (3 < c.cs.length)) ∧ Below w.heap.size w w' := by
  have hl := hx.1
  go_enter Tryz.func78, Tryz.ntmps78
  go_wp2
  go_loopw [8] (fun i wr => ∃ k : Nat, k ≤ ls.length ∧ i = .int .i64 k ∧ Hid (∀ j, j < k → decide (3 < (ls.getD j lz).cs.length) = false) ∧ Below w.heap.size w wr) (fun i _ => ls.length - (intOf i).toNat)
  case atStart => exact ⟨0, Nat.zero_le _, rfl, fun j hj => absurd hj (by omega), Below.refl _ _⟩
  case round =>
    obtain ⟨k, hk, rfl, HP, hb⟩ := hrel
    by_cases hlt : k < ls.length
    · obtain ⟨b, off, rfl, hc⟩ := hx.2.1.get hlt
      have hck := cell_below hb (hc k hlt)
      unfold ClauseV.val at hck
      have HA : Hid (decide (3 < (ls.getD k lz).cs.length) = true → (ls.any fun c => decide (3 < c.cs.length)) = true) := fun h => any_at (p := fun c : ClauseV => decide (3 < c.cs.length)) (z := lz) hlt h
      generalize (ls.getD k lz).ad = ad at *
      generalize (ls.getD k lz).cap = cp at *
      generalize hge : (ls.getD k lz).cs.length = cl at *
      have HGE : Hid ((ls.getD k lz).cs.length = cl) := hge
      have hC := isFull1_any ad cl cp wr
      clear hge hc hx
      by_cases h3 : 3 < cl
      · rw [decide_eq_true h3] at hC
        go_wp2_with fail
        refine hC.mono ?_
        clear hC
        rintro e w2 ⟨rfl, hb2⟩
        go_wp2
        go_ret
        exact ⟨_, ret_int rfl, ⟨by omega, by rw [HA.out (decide_eq_true h3)]; simp⟩, Below.step hb hb2⟩
      · rw [decide_eq_false h3] at hC
        go_wp2_with fail
        refine hC.mono ?_
        clear hC
        rintro e w2 ⟨rfl, hb2⟩
        go_wp2
        go_roundw
        case rel =>
          refine ⟨k + 1, by omega, by go_num, fun j hj => ?_, Below.step hb hb2⟩
          by_cases hjk : j = k
          · subst hjk; rw [HGE.out]; exact decide_eq_false (by omega)
          · exact HP.out j (by omega)
        case measure => simp [intOf]; omega
    · have HA : Hid ((ls.any fun c => decide (3 < c.cs.length)) = false) := any_none (z := lz) (fun j hj => HP.out j (by omega))
      go_wp2
      go_ret
      exact ⟨_, ret_int rfl, ⟨by omega, by rw [HA.out]; rfl⟩, hb⟩

theorem containsC_any (ao : Option Addr) (cap : Nat) (ls : List ClauseV) (w : World) (hx : ClausesAt w ao ls) :
    Calls Tryz.prog 59 #[.slice ao ls.length cap, .func (.func 60) #[] #[]] w fun e w' => e = .returned (.bool (wideB ls ls.length)) ∧ Below w.heap.size w w' := by
  have hC := indexC_any ao cap ls w hx
  rw [wide_any] at hC
  go_enter Tryz.func59, Tryz.ntmps59
  go_wp2_with fail
  refine hC.mono ?_
  clear hC
  rintro e w2 ⟨r, rfl, hr, hb2⟩
  have HR : Hid _ := hr.2
  clear hr
  go_wp2
  go_ret
  exact ⟨ret_bool HR.out, hb2⟩

set_option maxRecDepth 20000 in
set_option maxHeartbeats 2000000 in
theorem isFull_any (q : QueryV) (w : World) (hq : ClausesAt w q.wad q.wh) :
    Calls Tryz.prog 35 #[.agg q.cells] w fun e w' => e = .returned (.bool (fullB q.src.xs q.whs q.keys.xs q.sums.xs q.sel.xs q.ord.xs)) ∧ Below w.heap.size w w' := by
  have HE : Hid _ := q.full_eq
  generalize fullB q.src.xs q.whs q.keys.xs q.sums.xs q.sel.xs q.ord.xs = FB at *
  have hC := fun o => containsC_any q.wad q.wcap q.wh (w.alloc o) (hq.below (below_alloc _ _))
  have hwl := hq.1
  clear hq
  obtain ⟨src, wad, wcap, wh, group, keys, sums, sel, ord⟩ := q
  simp only at HE hC hwl
  unfold QueryV.cells IntsV.val
  simp only
  by_cases hf : 5 < src.xs.length ∨ 8 < wh.length ∨ 8 < sel.xs.length ∨ 4 < keys.xs.length ∨ 4 < sums.xs.length ∨ 4 < ord.xs.length
  · have HF : Hid (true = FB) := show true = FB by rw [HE.out, decide_eq_true hf, Bool.true_or]
    clear hC HE
    have hcase : (5 < src.xs.length) ∨ (¬ 5 < src.xs.length ∧ 8 < wh.length) ∨ (¬ 5 < src.xs.length ∧ ¬ 8 < wh.length ∧ 4 < ord.xs.length) ∨ (¬ 5 < src.xs.length ∧ ¬ 8 < wh.length ∧ ¬ 4 < ord.xs.length ∧ 8 < sel.xs.length) ∨
      (¬ 5 < src.xs.length ∧ ¬ 8 < wh.length ∧ ¬ 4 < ord.xs.length ∧ ¬ 8 < sel.xs.length ∧ 4 < keys.xs.length) ∨ (¬ 5 < src.xs.length ∧ ¬ 8 < wh.length ∧ ¬ 4 < ord.xs.length ∧ ¬ 8 < sel.xs.length ∧ ¬ 4 < keys.xs.length ∧ 4 < sums.xs.length) := by omega
    clear hf
    rcases hcase with h1 | ⟨h1, h2⟩ | ⟨h1, h2, h3⟩ | ⟨h1, h2, h3, h4⟩ | ⟨h1, h2, h3, h4, h5⟩ | ⟨h1, h2, h3, h4, h5, h6⟩
    all_goals
      go_enter Tryz.func35, Tryz.ntmps35
      go_wp2
      go_ret
      exact ⟨ret_bool HF.out, below_alloc _ _⟩
  · have HF : Hid (wideB wh wh.length = FB) := show wideB wh wh.length = FB by rw [HE.out, decide_eq_false hf, Bool.false_or]
    have h1 : ¬ 5 < src.xs.length := by omega
    have h2 : ¬ 8 < wh.length := by omega
    have h3 : ¬ 8 < sel.xs.length := by omega
    have h4 : ¬ 4 < keys.xs.length := by omega
    have h5 : ¬ 4 < sums.xs.length := by omega
    have h6 : ¬ 4 < ord.xs.length := by omega
    clear HE hf
    generalize wideB wh wh.length = Y at *
    go_enter Tryz.func35, Tryz.ntmps35
    go_wp2_with fail
    refine (hC _).mono ?_
    clear hC
    rintro e w2 ⟨rfl, hb2⟩
    go_wp2
    go_ret
    exact ⟨ret_bool HF.out, Below.step (below_alloc _ _) hb2⟩

theorem outWidth_any (q : QueryV) (w : World) (h1 : q.keys.xs.length ≤ 1000) (h2 : q.sums.xs.length ≤ 1000) :
    Calls Tryz.prog 65 #[.agg q.cells] w fun e w' => e = .returned (.int .i64 (outN q.group q.keys.xs q.sums.xs q.sel.xs)) ∧ Below w.heap.size w w' := by
  obtain ⟨src, wad, wcap, wh, group, keys, sums, sel, ord⟩ := q
  simp only at h1 h2
  unfold QueryV.cells IntsV.val
  cases group
  · go_enter Tryz.func65, Tryz.ntmps65
    go_wp2
    go_ret
    exact ⟨ret_int rfl, below_alloc _ _⟩
  · go_enter Tryz.func65, Tryz.ntmps65
    go_wp2
    go_ret
    exact ⟨ret_int rfl, below_alloc _ _⟩

set_option maxHeartbeats 2000000 in
theorem countColumns_any (ao : Option Addr) (cap : Nat) (ts : List TableD) (sad : Option Addr) (scap : Nat) (xs : List Int) (w : World) (hx : TablesAt w ao ts) (hc : catB ts = true) (hq : IntsAt w sad xs) (h5 : xs.length ≤ 5) (ha : allB xs ts.length = true) :
    Calls Tryz.prog 62 #[.slice ao ts.length cap, .slice sad xs.length scap] w fun e w' => e = .returned (.int .i64 (widthN ts xs)) ∧ w' = w := by
  have hl := hx.1
  have HC : Hid (catB ts = true) := hc
  have HA : Hid (allB xs ts.length = true) := ha
  clear hc ha
  go_enter Tryz.func62, Tryz.ntmps62
  go_wp2
  go_loop [5, 10] (fun n i => ∃ k : Nat, k ≤ xs.length ∧ i = .int .i64 k ∧ n = .int .i64 (widthN ts (xs.take k))) (fun _ i => xs.length - (intOf i).toNat)
  case atStart => exact ⟨0, Nat.zero_le _, rfl, rfl⟩
  case round =>
    obtain ⟨k, hk, rfl, rfl⟩ := hrel
    have hbd := widthN_bd HC.out HA.out k hk
    by_cases hlt : k < xs.length
    · obtain ⟨sb, soff, rfl, hs⟩ := hq.get hlt
      have hsk := hs k hlt
      have hr := allB_at HA.out hlt
      have hcol := cols_of HC.out (i := xs[k].toNat) (by omega)
      obtain ⟨b, off, rfl, c0, -⟩ := hx.2 xs[k].toNat (by omega)
      have HS : Hid (widthN ts (xs.take (k + 1)) = widthN ts (xs.take k) + (ts.getD xs[k].toNat tz).cols) := widthN_snoc ts xs k hlt
      generalize (ts.getD xs[k].toNat tz).cols = cc at *
      generalize widthN ts (xs.take k) = W0 at *
      clear hs hx hq
      go_wp2
      go_round
      case rel => exact ⟨k + 1, by omega, by go_num, by rw [HS.out]⟩
      case measure => simp [intOf]; omega
    · go_wp2
      go_ret
      have : k = xs.length := by omega
      subst this
      exact ⟨ret_int (by rw [List.take_length]), rfl⟩

end Go.Proofs.YtlpbelhfpoilpaaGreat

namespace Go.Proofs.YtlpbelhfpoilpaaGreat
open Go.RowKit Go.Scout

theorem clausesL_bad {ls : List ClauseV} {n : Int} {k : Nat} (hk : k < ls.length) (h : clauseB (ls.getD k lz).cs n = false) : false = clausesB (ls.map ClauseV.cs) n :=
  (@clausesB_bad ⟨⟨none, 0, []⟩, none, 0, ls, false, ⟨none, 0, []⟩, ⟨none, 0, []⟩, ⟨none, 0, []⟩, ⟨none, 0, []⟩⟩ n k hk h).symm
theorem clausesL_good {ls : List ClauseV} {n : Int} (h : ∀ k, k < ls.length → clauseB (ls.getD k lz).cs n = true) : true = clausesB (ls.map ClauseV.cs) n :=
  (@clausesB_good ⟨⟨none, 0, []⟩, none, 0, ls, false, ⟨none, 0, []⟩, ⟨none, 0, []⟩, ⟨none, 0, []⟩, ⟨none, 0, []⟩⟩ n h).symm

set_option maxRecDepth 20000 in
set_option maxHeartbeats 4000000 in
theorem clausesFit_any (ao : Option Addr) (cap : Nat) (ls : List ClauseV) (n : Int) (w : World) (hx : ClausesAt w ao ls) :
    Calls Tryz.prog 63 #[.slice ao ls.length cap, .int .i64 n] w fun e w' => e = .returned (.bool (clausesB (ls.map ClauseV.cs) n)) ∧ Below w.heap.size w w' := by
  have hl := hx.1
  have HBD : Hid _ := @clausesL_bad ls n
  have HGD : Hid _ := @clausesL_good ls n
  generalize clausesB (ls.map ClauseV.cs) n = R at *
  go_enter Tryz.func63, Tryz.ntmps63
  go_wp2
  go_loopw [11] (fun i wr => ∃ k : Nat, k ≤ ls.length ∧ i = .int .i64 k ∧ Hid (∀ j, j < k → clauseB (ls.getD j lz).cs n = true) ∧ Below w.heap.size w wr) (fun i _ => ls.length - (intOf i).toNat)
  case atStart => exact ⟨0, Nat.zero_le _, rfl, fun j hj => absurd hj (by omega), Below.refl _ _⟩
  case round =>
    obtain ⟨k, hk, rfl, HP, hb⟩ := hrel
    by_cases hlt : k < ls.length
    · obtain ⟨b, off, rfl, hc⟩ := hx.2.1.get hlt
      have hck := cell_below hb (hc k hlt)
      have hcd := hx.2.2 k hlt
      have HBc : Hid (clauseB (ls.getD k lz).cs n = false → false = R) := fun h => HBD.out hlt h
      generalize hge : ls.getD k lz = cl at *
      have HGE : Hid (ls.getD k lz = cl) := hge
      clear hge hc hx
      obtain ⟨ad, cp, cs⟩ := cl
      unfold ClauseV.val at hck
      simp only at hck hcd
      have hcl2 := hcd.1
      have hbs := hb.size
      by_cases hc0 : cs.length = 0
      · have HF : Hid (false = R) := HBc.out (clauseB_none (by simp only; omega))
        go_wp2
        go_ret
        exact ⟨ret_bool HF.out, hb.alloc hbs _⟩
      · have hc0' : ((cs.length : Int) == 0) = false := by simpa using hc0
        have HC0 : Hid (¬ cs.length = 0) := hc0
        clear hc0
        go_wp2
        go_loopw [22] (fun i wr2 => ∃ m : Nat, m ≤ cs.length ∧ i = .int .i64 m ∧ Hid (∀ j, j < m → condB (cs.getD j cz) n = true) ∧ Below w.heap.size w wr2) (fun i _ => cs.length - (intOf i).toNat)
        case atStart => exact ⟨0, Nat.zero_le _, rfl, fun j hj => absurd hj (by omega), hb.alloc hbs _⟩
        case round =>
          obtain ⟨m, hm, rfl, HM, hb2⟩ := hrel
          have hbs2 := hb2.size
          clear hck hc0'
          by_cases hml : m < cs.length
          · obtain ⟨b2, off2, rfl, c0, c1, c2, c3, c4⟩ := hcd.2 m hml
            have d0 := cell_below hb2 c0
            have d1 := cell_below hb2 c1
            have d2 := cell_below hb2 c2
            have d3 := cell_below hb2 c3
            have d4 := cell_below hb2 c4
            clear c0 c1 c2 c3 c4
            have hC := fun x => condFits_any (cs.getD m cz) n x
            unfold CondD.val at hC
            generalize hgc : cs.getD m cz = cc at *
            have HGC : Hid (cs.getD m cz = cc) := hgc
            clear hgc
            cases hcb : condB cc n
            · rw [hcb] at hC
              have HF : Hid (false = R) := HBc.out (clauseB_bad hml (by rw [HGC.out]; exact hcb))
              go_wp2_with fail
              refine (hC _).mono ?_
              clear hC
              rintro e w4 ⟨rfl, hb4⟩
              go_wp2
              go_ret
              exact ⟨ret_bool HF.out, Below.step (hb2.alloc hbs2 _) hb4⟩
            · rw [hcb] at hC
              have HCB2 : Hid (condB cc n = true) := hcb
              clear hcb
              go_wp2_with fail
              refine (hC _).mono ?_
              clear hC
              rintro e w4 ⟨rfl, hb4⟩
              go_wp2
              go_roundw
              case rel =>
                refine ⟨m + 1, by omega, by go_num, fun j hj => ?_, Below.step (hb2.alloc hbs2 _) hb4⟩
                by_cases hjm : j = m
                · subst hjm; rw [HGC.out]; exact HCB2.out
                · exact HM.out j (by omega)
              case measure => simp [intOf]; omega
          · have HG : Hid (clauseB cs n = true) := clauseB_good (by have := HC0.out; omega) (fun j hj => HM.out j (by omega))
            go_wp2
            go_roundw
            case rel =>
              refine ⟨k + 1, by omega, by go_num, fun j hj => ?_, hb2⟩
              by_cases hjk : j = k
              · subst hjk; rw [HGE.out]; exact HG.out
              · exact HP.out j (by omega)
            case measure => simp [intOf]; omega
    · have HF : Hid (true = R) := HGD.out (fun j hj => HP.out j (by omega))
      go_wp2
      go_ret
      exact ⟨ret_bool HF.out, hb⟩

/-- What outputFits answers. -/
def fitsB (n : Int) (group : Bool) (keys sums sel : List Int) : Bool :=
  if group then decide (sel.length = 0) && allB sums n && allB keys n && apartB keys else decide (0 < sel.length) && allB sel n && decide (keys.length = 0) && decide (sums.length = 0)

set_option maxRecDepth 20000 in
set_option maxHeartbeats 4000000 in
theorem outputFits_any (q : QueryV) (n : Int) (w : World) (hk : q.keys.At w) (hs : q.sums.At w) (he : q.sel.At w) (hkc : q.keys.xs.length ≤ q.keys.cap) :
    Calls Tryz.prog 64 #[.agg q.cells, .int .i64 n] w fun e w' => e = .returned (.bool (fitsB n q.group q.keys.xs q.sums.xs q.sel.xs)) ∧ Below w.heap.size w w' := by
  obtain ⟨src, wad, wcap, wh, group, ⟨kad, kcap, keys⟩, ⟨uad, ucap, sums⟩, ⟨ead, ecap, sel⟩, ord⟩ := q
  unfold IntsV.At at hk hs he
  simp only at hk hs he hkc
  unfold QueryV.cells IntsV.val
  simp only
  have hkl := hk.1
  have hul := hs.1
  have hel := he.1
  have hC1 := fun x (h : Below w.heap.size w x) => allBelow_any ead ecap sel n x (IntsAt.below h he)
  have hC2 := fun x (h : Below w.heap.size w x) => allBelow_any uad ucap sums n x (IntsAt.below h hs)
  have hC3 := fun x (h : Below w.heap.size w x) => allBelow_any kad kcap keys n x (IntsAt.below h hk)
  have hC4 := fun x (h : Below w.heap.size w x) => allDifferent_any kad kcap keys x (IntsAt.below h hk) hkc
  clear hk hs he
  have HE : Hid (fitsB n group keys sums sel = fitsB n group keys sums sel) := rfl
  generalize hR : fitsB n group keys sums sel = R at *
  clear HE
  unfold fitsB at hR
  generalize allB sel n = A1 at *
  generalize allB sums n = A2 at *
  generalize allB keys n = A3 at *
  generalize apartB keys = A4 at *
  cases group
  · simp only [Bool.false_eq_true, if_false] at hR
    clear hC2 hC3 hC4
    by_cases h0 : 0 < sel.length
    · rw [decide_eq_true h0, Bool.true_and] at hR
      cases A1
      · have HF : Hid (false = R) := show false = R by rw [← hR]; rfl
        clear hR
        go_enter Tryz.func64, Tryz.ntmps64
        go_wp2_with fail
        refine (hC1 _ (below_alloc _ _)).mono ?_
        clear hC1
        rintro e w2 ⟨rfl, hb2⟩
        go_wp2
        go_ret
        exact ⟨ret_bool HF.out, Below.step (below_alloc _ _) hb2⟩
      · rw [Bool.true_and] at hR
        by_cases h1 : keys.length = 0
        · have h1' : ((keys.length : Int) == 0) = true := by simpa using h1
          have HF : Hid (((sums.length : Int) == 0) = R) := show ((sums.length : Int) == 0) = R by rw [← hR, decide_eq_true h1, Bool.true_and, eq0_len]
          clear hR h1
          go_enter Tryz.func64, Tryz.ntmps64
          go_wp2_with fail
          refine (hC1 _ (below_alloc _ _)).mono ?_
          clear hC1
          rintro e w2 ⟨rfl, hb2⟩
          have hcell := bcell hb2
          simp at hcell
          go_wp2
          go_ret
          exact ⟨ret_bool HF.out, Below.step (below_alloc _ _) hb2⟩
        · have h1' : ((keys.length : Int) == 0) = false := by simpa using h1
          have HF : Hid (false = R) := show false = R by rw [← hR, decide_eq_false h1]; rfl
          clear hR h1
          go_enter Tryz.func64, Tryz.ntmps64
          go_wp2_with fail
          refine (hC1 _ (below_alloc _ _)).mono ?_
          clear hC1
          rintro e w2 ⟨rfl, hb2⟩
          have hcell := bcell hb2
          simp at hcell
          go_wp2
          go_ret
          exact ⟨ret_bool HF.out, Below.step (below_alloc _ _) hb2⟩
    · have HF : Hid (false = R) := show false = R by rw [← hR, decide_eq_false h0]; rfl
      clear hR
      go_enter Tryz.func64, Tryz.ntmps64
      go_wp2
      go_ret
      exact ⟨ret_bool HF.out, below_alloc _ _⟩
  · simp only [if_true] at hR
    clear hC1
    by_cases h0 : 0 < sel.length
    · have HF : Hid (false = R) := show false = R by rw [← hR, decide_eq_false (by omega)]; rfl
      clear hR
      go_enter Tryz.func64, Tryz.ntmps64
      go_wp2
      go_ret
      exact ⟨ret_bool HF.out, below_alloc _ _⟩
    · rw [decide_eq_true (show sel.length = 0 by omega), Bool.true_and] at hR
      cases A2
      · have HF : Hid (false = R) := show false = R by rw [← hR]; rfl
        clear hR
        go_enter Tryz.func64, Tryz.ntmps64
        go_wp2_with fail
        refine (hC2 _ (below_alloc _ _)).mono ?_
        clear hC2
        rintro e w2 ⟨rfl, hb2⟩
        go_wp2
        go_ret
        exact ⟨ret_bool HF.out, Below.step (below_alloc _ _) hb2⟩
      · rw [Bool.true_and] at hR
        cases A3
        · have HF : Hid (false = R) := show false = R by rw [← hR]; rfl
          clear hR
          go_enter Tryz.func64, Tryz.ntmps64
          go_wp2_with fail
          refine (hC2 _ (below_alloc _ _)).mono ?_
          clear hC2
          rintro e w2 ⟨rfl, hb2⟩
          have hcell := bcell hb2
          simp at hcell
          go_wp2_with fail
          refine (hC3 _ (Below.step (below_alloc _ _) hb2)).mono ?_
          clear hC3
          rintro e w3 ⟨rfl, hb3⟩
          go_wp2
          go_ret
          exact ⟨ret_bool HF.out, Below.step (Below.step (below_alloc _ _) hb2) hb3⟩
        · have HF : Hid (A4 = R) := show A4 = R by rw [← hR, Bool.true_and]
          clear hR
          go_enter Tryz.func64, Tryz.ntmps64
          go_wp2_with fail
          refine (hC2 _ (below_alloc _ _)).mono ?_
          clear hC2
          rintro e w2 ⟨rfl, hb2⟩
          have hcell := bcell hb2
          simp at hcell
          go_wp2_with fail
          refine (hC3 _ (Below.step (below_alloc _ _) hb2)).mono ?_
          clear hC3
          rintro e w3 ⟨rfl, hb3⟩
          have hz : w.heap.size < w2.heap.size := by have := hb2.size; simp at this; omega
          have hcell3 := bcell hb3
          go_wp2_with fail
          refine (hC4 _ (Below.step (Below.step (below_alloc _ _) hb2) hb3)).mono ?_
          clear hC4
          rintro e w4 ⟨rfl, rfl⟩
          go_wp2
          go_ret
          exact ⟨ret_bool HF.out, Below.step (Below.step (below_alloc _ _) hb2) hb3⟩

end Go.Proofs.YtlpbelhfpoilpaaGreat

namespace Go.Proofs.YtlpbelhfpoilpaaGreat
open Go.RowKit Go.Scout

theorem restB_fits (n : Int) (group : Bool) (keys sums sel ord : List Int) :
    restB n group keys sums sel ord = (fitsB n group keys sums sel && (allB ord (outN group keys sums sel) && apartB ord)) := by
  unfold restB fitsB
  generalize allB ord (outN group keys sums sel) = O
  generalize apartB ord = P
  cases group
  · by_cases hs : sel.length = 0
    · have : ¬ 0 < sel.length := by omega
      simp [hs]
    · have h1 : decide (sel.length = 0) = false := decide_eq_false hs
      have h2 : decide (0 < sel.length) = true := decide_eq_true (by omega)
      rw [h1, h2]
      by_cases hk : keys.length = 0
      · by_cases hu : sums.length = 0
        · have hk' : keys = [] := List.eq_nil_of_length_eq_zero hk
          have hu' : sums = [] := List.eq_nil_of_length_eq_zero hu
          subst hk' hu'
          have ha : apartB [] = true := by decide
          rw [ha]
          cases allB sel n <;> cases O <;> cases P <;> rfl
        · rw [decide_eq_false hu, decide_eq_false (show ¬ keys.length + sums.length = 0 by omega)]
          simp
      · rw [decide_eq_false hk, decide_eq_false (show ¬ keys.length + sums.length = 0 by omega)]
        simp
  · by_cases hs : sel.length = 0
    · have hs' : sel = [] := List.eq_nil_of_length_eq_zero hs
      subst hs'
      have h1 : allB [] n = true := rfl
      rw [h1]
      cases allB sums n <;> cases allB keys n <;> cases apartB keys <;> cases O <;> cases P <;> rfl
    · rw [decide_eq_false hs]
      simp

/-- What isQuery answers. -/
def queryB (ts : List TableD) (src : List Int) (wh : List (List CondD)) (group : Bool) (keys sums sel ord : List Int) : Bool :=
  decide (0 < src.length) && (allB src ts.length && (clausesB wh (widthN ts src) && (fitsB (widthN ts src) group keys sums sel && (allB ord (outN group keys sums sel) && apartB ord))))

theorem check_query {ts : List TableD} {src : List Int} {wh : List (List CondD)} {group : Bool} {keys sums sel ord : List Int} (hc : catB ts = true) (hf : fullB src wh keys sums sel ord = false) :
    checkN ts src wh group keys sums sel ord = if queryB ts src wh group keys sums sel ord then 0 else 3 := by
  unfold checkN queryB
  rw [if_neg (by simp [hc]), if_neg (by simp [hf]), restB_fits]
  generalize (fitsB (widthN ts src) group keys sums sel && (allB ord (outN group keys sums sel) && apartB ord)) = X
  by_cases h0 : 0 < src.length
  · rw [decide_eq_true h0]
    cases allB src ts.length <;> cases clausesB wh (widthN ts src) <;> cases X <;> simp [h0]
  · rw [decide_eq_false h0]
    simp [h0]

set_option maxRecDepth 20000 in
set_option maxHeartbeats 8000000 in
theorem isQuery_any (ao : Option Addr) (cap : Nat) (ts : List TableD) (q : QueryV) (w : World) (hx : TablesAt w ao ts) (hq : q.At w) (hc : catB ts = true)
    (hf : fullB q.src.xs q.whs q.keys.xs q.sums.xs q.sel.xs q.ord.xs = false) (hkc : q.keys.xs.length ≤ q.keys.cap) (hoc : q.ord.xs.length ≤ q.ord.cap) :
    Calls Tryz.prog 36 #[.slice ao ts.length cap, .agg q.cells] w fun e w' => e = .returned (.bool (queryB ts q.src.xs q.whs q.group q.keys.xs q.sums.xs q.sel.xs q.ord.xs)) ∧ Below w.heap.size w w' := by
  have hlen : ¬ (5 < q.src.xs.length ∨ 8 < q.wh.length ∨ 8 < q.sel.xs.length ∨ 4 < q.keys.xs.length ∨ 4 < q.sums.xs.length ∨ 4 < q.ord.xs.length) := by
    intro h
    rw [QueryV.full_eq, decide_eq_true h, Bool.true_or] at hf
    cases hf
  have hOW := fun x => outWidth_any q x (by omega) (by omega)
  have hOF := fun n x (h : Below w.heap.size w x) => outputFits_any q n x (IntsAt.below h hq.keys) (IntsAt.below h hq.sums) (IntsAt.below h hq.sel) hkc
  unfold queryB
  obtain ⟨src, wad, wcap, wh, group, keys, sums, sel, ord⟩ := q
  have hsrc : IntsAt w src.ad src.xs := hq.src
  have hord : IntsAt w ord.ad ord.xs := hq.ord
  have hwh : ClausesAt w wad wh := hq.wh
  have hwhs : (QueryV.mk src wad wcap wh group keys sums sel ord).whs = wh.map ClauseV.cs := rfl
  simp only [hwhs] at *
  clear hwhs hq hf
  unfold QueryV.cells IntsV.val at *
  simp only at *
  have h1 : src.xs.length ≤ 5 := by omega
  have hcl1 := fun x (h : Below w.heap.size w x) => allBelow_any src.ad src.cap src.xs ts.length x (hsrc.below h)
  have hcl2 := fun n x (h : Below w.heap.size w x) => clausesFit_any wad wcap wh n x (hwh.below h)
  have hcl3 := fun x (h : Below w.heap.size w x) => allBelow_any ord.ad ord.cap ord.xs (outN group keys.xs sums.xs sel.xs) x (hord.below h)
  have hcl4 := fun x (h : Below w.heap.size w x) => allDifferent_any ord.ad ord.cap ord.xs x (hord.below h) hoc
  generalize hR : (decide (0 < src.xs.length) && (allB src.xs ts.length && (clausesB (wh.map ClauseV.cs) (widthN ts src.xs) && (fitsB (widthN ts src.xs) group keys.xs sums.xs sel.xs && (allB ord.xs (outN group keys.xs sums.xs sel.xs) && apartB ord.xs))))) = R
  by_cases h0 : 0 < src.xs.length
  · rw [decide_eq_true h0, Bool.true_and] at hR
    have h0' : ((src.xs.length : Int) == 0) = false := by rw [beq_eq_false_iff_ne]; omega
    cases ha : allB src.xs ts.length
    · rw [ha] at hcl1 hR
      have HR : Hid (false = R) := hR
      clear hR
      go_enter Tryz.func36, Tryz.ntmps36
      go_wp2_with fail
      refine (hcl1 _ (below_alloc _ _)).mono ?_
      rintro e w2 ⟨rfl, hb2⟩
      go_wp2
      go_ret
      exact ⟨ret_bool HR.out, Below.step (below_alloc _ _) hb2⟩
    · have hcc := fun x (h : Below w.heap.size w x) => countColumns_any ao cap ts src.ad src.cap src.xs x (hx.below h) hc (hsrc.below h) h1 ha
      rw [ha] at hcl1 hR
      clear ha hc
      rw [Bool.true_and] at hR
      have HR : Hid _ := hR
      clear hR
      generalize widthN ts src.xs = N at *
      have hcl2 := hcl2 N
      have hOF := hOF N
      generalize clausesB (wh.map ClauseV.cs) N = CB at *
      generalize fitsB N group keys.xs sums.xs sel.xs = FB at *
      clear hx hsrc hord hwh hkc hoc
      go_enter Tryz.func36, Tryz.ntmps36
      go_wp2_with fail
      refine (hcl1 _ (below_alloc _ _)).mono ?_
      clear hcl1
      rintro e w2 ⟨rfl, hb2⟩
      have hz : w.heap.size < w2.heap.size := by have := hb2.size; simp at this; omega
      have hcell := bcell hb2
      simp at hcell
      have k2 := Below.step (below_alloc _ _) hb2
      go_wp2_with fail
      refine (hcc _ k2).mono ?_
      clear hcc
      rintro e w3 ⟨rfl, rfl⟩
      go_wp2_with fail
      refine (hcl2 _ k2).mono ?_
      clear hcl2
      rintro e w4 ⟨rfl, hb4⟩
      have k4 := Below.step k2 hb4
      have f0 : w4.cell? ⟨w.heap.size, 0, none⟩ = some (.slice src.ad src.xs.length src.cap) := cell_below hb4 (by rw [hcell _ _ (by omega)]; simp)
      have f1 : w4.cell? ⟨w.heap.size, 1, none⟩ = some (.slice wad wh.length wcap) := cell_below hb4 (by rw [hcell _ _ (by omega)]; simp)
      have f2 : w4.cell? ⟨w.heap.size, 2, none⟩ = some (.bool group) := cell_below hb4 (by rw [hcell _ _ (by omega)]; simp)
      have f3 : w4.cell? ⟨w.heap.size, 3, none⟩ = some (.slice keys.ad keys.xs.length keys.cap) := cell_below hb4 (by rw [hcell _ _ (by omega)]; simp)
      have f4 : w4.cell? ⟨w.heap.size, 4, none⟩ = some (.slice sums.ad sums.xs.length sums.cap) := cell_below hb4 (by rw [hcell _ _ (by omega)]; simp)
      have f5 : w4.cell? ⟨w.heap.size, 5, none⟩ = some (.slice sel.ad sel.xs.length sel.cap) := cell_below hb4 (by rw [hcell _ _ (by omega)]; simp)
      have f6 : w4.cell? ⟨w.heap.size, 6, none⟩ = some (.slice ord.ad ord.xs.length ord.cap) := cell_below hb4 (by rw [hcell _ _ (by omega)]; simp)
      clear hcell hb4 k2 hb2
      cases CB
      · go_wp2
        go_ret
        exact ⟨ret_bool HR.out, k4⟩
      · go_wp2_with fail
        refine (hOF _ k4).mono ?_
        clear hOF
        rintro e w5 ⟨rfl, hb5⟩
        have k5 := Below.step k4 hb5
        have g0 := cell_below hb5 f0
        have g1 := cell_below hb5 f1
        have g2 := cell_below hb5 f2
        have g3 := cell_below hb5 f3
        have g4 := cell_below hb5 f4
        have g5 := cell_below hb5 f5
        have g6 := cell_below hb5 f6
        clear f0 f1 f2 f3 f4 f5 f6 hb5 k4
        cases FB
        · go_wp2
          go_ret
          exact ⟨ret_bool HR.out, k5⟩
        · go_wp2_with fail
          generalize outN group keys.xs sums.xs sel.xs = O at *
          generalize allB ord.xs O = AO at *
          generalize apartB ord.xs = PO at *
          refine wp_region_below (by kernel_rfl) (by kernel_rfl) ?_
          go_big_quiet_want
          refine ⟨.pointer (some ⟨w.heap.size, 6, none⟩), fun x hx => ?_, ?_⟩
          · go_simp
          simp only [Act.put, List.setIfInBounds_toArray, List.set_cons_succ, List.set_cons_zero]
          go_big_quiet_on
          go_big_quiet_want
          refine ⟨.slice ord.ad ord.xs.length ord.cap, fun x hx => ?_, ?_⟩
          · have e6 := cell_below hx g6
            go_simp
          simp only [Act.put, List.setIfInBounds_toArray, List.set_cons_succ, List.set_cons_zero]
          go_big_quiet_on
          go_big_quiet_want
          refine ⟨.agg #[.slice src.ad src.xs.length src.cap, .slice wad wh.length wcap, .bool group, .slice keys.ad keys.xs.length keys.cap, .slice sums.ad sums.xs.length sums.cap, .slice sel.ad sel.xs.length sel.cap, .slice ord.ad ord.xs.length ord.cap], fun x hx => ?_, ?_⟩
          · have e0 := cell_below hx g0
            have e1 := cell_below hx g1
            have e2 := cell_below hx g2
            have e3 := cell_below hx g3
            have e4 := cell_below hx g4
            have e5 := cell_below hx g5
            have e6 := cell_below hx g6
            go_simp
          simp only [Act.put, List.setIfInBounds_toArray, List.set_cons_succ, List.set_cons_zero]
          go_big_quiet_on
          go_big_quiet_want
          refine ⟨.int .i64 O, fun x hx => ?_, ?_⟩
          · have hC := Calls.within hx (hOW x)
            go_simp
          simp only [Act.put, List.setIfInBounds_toArray, List.set_cons_succ, List.set_cons_zero]
          go_big_quiet_on
          go_big_quiet_want
          refine ⟨.bool AO, fun x hx => ?_, ?_⟩
          · have hC := Calls.within hx (hcl3 x (Below.step k5 hx))
            go_simp
          simp only [Act.put, List.setIfInBounds_toArray, List.set_cons_succ, List.set_cons_zero]
          go_big_quiet_on
          go_big_quiet_want
          refine ⟨.bool AO, fun x hx => ?_, ?_⟩
          · go_simp
          simp only [Act.put, List.setIfInBounds_toArray, List.set_cons_succ, List.set_cons_zero]
          go_big_quiet_on
          cases AO
          · go_big_quiet_skip
            go_big_quiet_skip
            go_big_quiet_skip
            go_big_quiet_want
            refine ⟨.bool false, fun x hx => ?_, ?_⟩
            · go_simp
            simp only [Act.put, List.setIfInBounds_toArray, List.set_cons_succ, List.set_cons_zero]
            go_big_quiet_on
            go_big_quiet_want
            refine ⟨.bool false, fun x hx => ?_, ?_⟩
            · go_simp
            simp only [Act.put, List.setIfInBounds_toArray, List.set_cons_succ, List.set_cons_zero]
            go_big_quiet_on
            refine wpQuiet_nil ?_
            intro x hx
            go_wp2
            go_ret
            exact ⟨ret_bool HR.out, Below.step k5 hx⟩
          · go_big_quiet_want
            refine ⟨.pointer (some ⟨w.heap.size, 6, none⟩), fun x hx => ?_, ?_⟩
            · go_simp
            simp only [Act.put, List.setIfInBounds_toArray, List.set_cons_succ, List.set_cons_zero]
            go_big_quiet_on
            go_big_quiet_want
            refine ⟨.slice ord.ad ord.xs.length ord.cap, fun x hx => ?_, ?_⟩
            · have e6 := cell_below hx g6
              go_simp
            simp only [Act.put, List.setIfInBounds_toArray, List.set_cons_succ, List.set_cons_zero]
            go_big_quiet_on
            go_big_quiet_want
            refine ⟨.bool PO, fun x hx => ?_, ?_⟩
            · have hC := Calls.within_same hx (hcl4 x (Below.step k5 hx))
              go_simp
            simp only [Act.put, List.setIfInBounds_toArray, List.set_cons_succ, List.set_cons_zero]
            go_big_quiet_on
            go_big_quiet_want
            refine ⟨.bool PO, fun x hx => ?_, ?_⟩
            · go_simp
            simp only [Act.put, List.setIfInBounds_toArray, List.set_cons_succ, List.set_cons_zero]
            go_big_quiet_on
            go_big_quiet_want
            refine ⟨.bool PO, fun x hx => ?_, ?_⟩
            · go_simp
            simp only [Act.put, List.setIfInBounds_toArray, List.set_cons_succ, List.set_cons_zero]
            go_big_quiet_on
            refine wpQuiet_nil ?_
            intro x hx
            go_wp2
            go_ret
            exact ⟨ret_bool HR.out, Below.step k5 hx⟩
  · have h0' : ((src.xs.length : Int) == 0) = true := by rw [beq_iff_eq]; omega
    rw [decide_eq_false h0, Bool.false_and] at hR
    have HR : Hid (false = R) := hR
    clear hR
    clear hOW hOF hcl1 hcl2 hcl3 hcl4
    go_enter Tryz.func36, Tryz.ntmps36
    go_wp2
    go_ret
    exact ⟨ret_bool HR.out, below_alloc _ _⟩

end Go.Proofs.YtlpbelhfpoilpaaGreat

namespace Go.Proofs.YtlpbelhfpoilpaaGreat
open Go.RowKit Go.Scout

theorem check_of_cat {q : QueryV} {ts : List TableD} (h : catB ts = false) : (1 : Int) = q.check ts := QueryV.check_cat h
theorem check_of_query {q : QueryV} {ts : List TableD} (hc : catB ts = true) (hf : fullB q.src.xs q.whs q.keys.xs q.sums.xs q.sel.xs q.ord.xs = false) :
    q.check ts = if queryB ts q.src.xs q.whs q.group q.keys.xs q.sums.xs q.sel.xs q.ord.xs then 0 else 3 := check_query hc hf

set_option maxRecDepth 20000 in
set_option maxHeartbeats 4000000 in
theorem checkQ_any (ao : Option Addr) (cap : Nat) (ts : List TableD) (q : QueryV) (w : World) (hx : TablesAt w ao ts) (hq : q.At w) (hkc : q.keys.xs.length ≤ q.keys.cap) (hoc : q.ord.xs.length ≤ q.ord.cap) :
    Calls Tryz.prog 16 #[.slice ao ts.length cap, .agg q.cells] w fun e w' => e = .returned (.int .i64 (q.check ts)) ∧ Below w.heap.size w w' := by
  have hC1 := fun x (h : Below w.heap.size w x) => isCatalogP_any ao cap ts x (hx.below h)
  have hC2 := fun x (h : Below w.heap.size w x) => isFull_any q x (hq.wh.below h)
  have hC3 := fun (hc : catB ts = true) (hf : fullB q.src.xs q.whs q.keys.xs q.sums.xs q.sel.xs q.ord.xs = false) x (h : Below w.heap.size w x) => isQuery_any ao cap ts q x (hx.below h) (hq.below h) hc hf hkc hoc
  have e1 := @check_of_cat q ts
  have e2 := @QueryV.check_full q ts
  have e3 := @check_of_query q ts
  generalize q.check ts = R at *
  generalize fullB q.src.xs q.whs q.keys.xs q.sums.xs q.sel.xs q.ord.xs = FB at *
  generalize queryB ts q.src.xs q.whs q.group q.keys.xs q.sums.xs q.sel.xs q.ord.xs = QB at *
  generalize catB ts = CB at *
  obtain ⟨src, wad, wcap, wh, group, keys, sums, sel, ord⟩ := q
  clear hx hq hkc hoc
  unfold QueryV.cells IntsV.val at *
  simp only at *
  cases CB
  · have HF : Hid ((1 : Int) = R) := e1 rfl
    clear hC2 hC3 e1 e2 e3
    go_enter Tryz.func16, Tryz.ntmps16
    go_wp2_with fail
    refine (hC1 _ (below_alloc _ _)).mono ?_
    clear hC1
    rintro e w2 ⟨rfl, hb2⟩
    go_wp2
    go_ret
    exact ⟨ret_int HF.out, Below.step (below_alloc _ _) hb2⟩
  · cases FB
    · have HC3 : Hid _ := hC3 rfl rfl
      clear hC3
      have HF : Hid (R = if QB = true then 0 else 3) := e3 rfl rfl
      clear e1 e2 e3
      go_enter Tryz.func16, Tryz.ntmps16
      go_wp2_with fail
      refine (hC1 _ (below_alloc _ _)).mono ?_
      clear hC1
      rintro e w2 ⟨rfl, hb2⟩
      have hz : w.heap.size < w2.heap.size := by have := hb2.size; simp at this; omega
      have hcell := bcell hb2
      simp at hcell
      have k2 := Below.step (below_alloc _ _) hb2
      go_wp2_with fail
      refine (hC2 _ k2).mono ?_
      clear hC2
      rintro e w3 ⟨rfl, hb3⟩
      have hcell3 := bcell hb3
      have k3 := Below.step k2 hb3
      go_wp2_with fail
      refine (HC3.out _ k3).mono ?_
      clear HC3
      rintro e w4 ⟨rfl, hb4⟩
      cases QB
      · have HF' : Hid ((3 : Int) = R) := HF.out.symm
        go_wp2
        go_ret
        exact ⟨ret_int HF'.out, Below.step k3 hb4⟩
      · have HF' : Hid ((0 : Int) = R) := HF.out.symm
        go_wp2
        go_ret
        exact ⟨ret_int HF'.out, Below.step k3 hb4⟩
    · have HF : Hid ((2 : Int) = R) := e2 rfl rfl
      clear hC3 e1 e2 e3
      go_enter Tryz.func16, Tryz.ntmps16
      go_wp2_with fail
      refine (hC1 _ (below_alloc _ _)).mono ?_
      clear hC1
      rintro e w2 ⟨rfl, hb2⟩
      have hz : w.heap.size < w2.heap.size := by have := hb2.size; simp at this; omega
      have hcell := bcell hb2
      simp at hcell
      have k2 := Below.step (below_alloc _ _) hb2
      go_wp2_with fail
      refine (hC2 _ k2).mono ?_
      clear hC2
      rintro e w3 ⟨rfl, hb3⟩
      go_wp2
      go_ret
      exact ⟨ret_int HF.out, Below.step k2 hb3⟩

end Go.Proofs.YtlpbelhfpoilpaaGreat

