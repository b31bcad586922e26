import Derived.Test.YtlpbelhfpoilpaaCProgCProgD
set_option linter.all false
namespace Go.Proofs.Ytlpbelhfpoilpaa
open Go.RowKit Go.Scout

theorem isFull1_any (ad : Option Addr) (n cap : Nat) (w : World) :
    Calls Try.prog 61 #[.agg #[.slice ad n cap]] w fun e w' => e = .returned (.bool (decide (3 < n))) ∧ Below w.heap.size w w' := by
  go_enter Try.func61, Try.ntmps61
  go_wp2
  go_ret
  exact ⟨ret_bool (decide_eq_decide.2 (by omega)), below_alloc _ _⟩

set_option maxHeartbeats 2000000 in
theorem indexC_any (ao : Option Addr) (cap : Nat) (ls : List ClauseV) (w : World) (hx : ClausesAt w ao ls) :
    Calls Try.prog 77 #[.slice ao ls.length cap, .func (.func 61) #[] #[]] w fun e w' => ∃ r, e = .returned (.int .i64 r) ∧ foundAt r (ls.any fun c => decide (3 < c.cs.length)) ∧ Below w.heap.size w w' := by
  have hl := hx.1
  go_enter Try.func77, Try.ntmps77
  go_wp2
  go_loopw [8] (fun i wr => ∃ k : Nat, k ≤ ls.length ∧ i = .int .i64 k ∧ Hid (∀ j, j < k → decide (3 < (ls.getD j lz).cs.length) = false) ∧ Below w.heap.size w wr) (fun i _ => ls.length - (intOf i).toNat)
  case atStart => exact ⟨0, Nat.zero_le _, rfl, fun j hj => absurd hj (by omega), Below.refl _ _⟩
  case round =>
    obtain ⟨k, hk, rfl, HP, hb⟩ := hrel
    by_cases hlt : k < ls.length
    · obtain ⟨b, off, rfl, hc⟩ := hx.2.1.get hlt
      have hck := cell_below hb (hc k hlt)
      unfold ClauseV.val at hck
      have HA : Hid (decide (3 < (ls.getD k lz).cs.length) = true → (ls.any fun c => decide (3 < c.cs.length)) = true) := fun h => any_at (p := fun c : ClauseV => decide (3 < c.cs.length)) (z := lz) hlt h
      generalize (ls.getD k lz).ad = ad at *
      generalize (ls.getD k lz).cap = cp at *
      generalize hge : (ls.getD k lz).cs.length = cl at *
      have HGE : Hid ((ls.getD k lz).cs.length = cl) := hge
      have hC := isFull1_any ad cl cp wr
      clear hge hc hx
      by_cases h3 : 3 < cl
      · rw [decide_eq_true h3] at hC
        go_wp2_with fail
        refine hC.mono ?_
        clear hC
        rintro e w2 ⟨rfl, hb2⟩
        go_wp2
        go_ret
        exact ⟨_, ret_int rfl, ⟨by omega, by rw [HA.out (decide_eq_true h3)]; simp⟩, Below.step hb hb2⟩
      · rw [decide_eq_false h3] at hC
        go_wp2_with fail
        refine hC.mono ?_
        clear hC
        rintro e w2 ⟨rfl, hb2⟩
        go_wp2
        go_roundw
        case rel =>
          refine ⟨k + 1, by omega, by go_num, fun j hj => ?_, Below.step hb hb2⟩
          by_cases hjk : j = k
          · subst hjk; rw [HGE.out]; exact decide_eq_false (by omega)
          · exact HP.out j (by omega)
        case measure => simp [intOf]; omega
    · have HA : Hid ((ls.any fun c => decide (3 < c.cs.length)) = false) := any_none (z := lz) (fun j hj => HP.out j (by omega))
      go_wp2
      go_ret
      exact ⟨_, ret_int rfl, ⟨by omega, by rw [HA.out]; rfl⟩, hb⟩

theorem containsC_any (ao : Option Addr) (cap : Nat) (ls : List ClauseV) (w : World) (hx : ClausesAt w ao ls) :
    Calls Try.prog 60 #[.slice ao ls.length cap, .func (.func 61) #[] #[]] w fun e w' => e = .returned (.bool (wideB ls ls.length)) ∧ Below w.heap.size w w' := by
  have hC := indexC_any ao cap ls w hx
  rw [wide_any] at hC
  go_enter Try.func60, Try.ntmps60
  go_wp2_with fail
  refine hC.mono ?_
  clear hC
  rintro e w2 ⟨r, rfl, hr, hb2⟩
  have HR : Hid _ := hr.2
  clear hr
  go_wp2
  go_ret
  exact ⟨ret_bool HR.out, hb2⟩

set_option maxRecDepth 20000 in
set_option maxHeartbeats 2000000 in
theorem isFull_any (q : QueryV) (w : World) (hq : ClausesAt w q.wad q.wh) :
    Calls Try.prog 42 #[.agg q.cells] w fun e w' => e = .returned (.bool (fullB q.src.xs q.whs q.keys.xs q.sums.xs q.sel.xs q.ord.xs)) ∧ Below w.heap.size w w' := by
  have HE : Hid _ := q.full_eq
  generalize fullB q.src.xs q.whs q.keys.xs q.sums.xs q.sel.xs q.ord.xs = FB at *
  have hC := fun o => containsC_any q.wad q.wcap q.wh (w.alloc o) (hq.below (below_alloc _ _))
  have hwl := hq.1
  clear hq
  obtain ⟨src, wad, wcap, wh, group, keys, sums, sel, ord⟩ := q
  simp only at HE hC hwl
  unfold QueryV.cells IntsV.val
  simp only
  by_cases hf : 5 < src.xs.length ∨ 8 < wh.length ∨ 8 < sel.xs.length ∨ 4 < keys.xs.length ∨ 4 < sums.xs.length ∨ 4 < ord.xs.length
  · have HF : Hid (true = FB) := show true = FB by rw [HE.out, decide_eq_true hf, Bool.true_or]
    clear hC HE
    have hcase : (5 < src.xs.length) ∨ (¬ 5 < src.xs.length ∧ 8 < wh.length) ∨ (¬ 5 < src.xs.length ∧ ¬ 8 < wh.length ∧ 4 < ord.xs.length) ∨ (¬ 5 < src.xs.length ∧ ¬ 8 < wh.length ∧ ¬ 4 < ord.xs.length ∧ 8 < sel.xs.length) ∨
      (¬ 5 < src.xs.length ∧ ¬ 8 < wh.length ∧ ¬ 4 < ord.xs.length ∧ ¬ 8 < sel.xs.length ∧ 4 < keys.xs.length) ∨ (¬ 5 < src.xs.length ∧ ¬ 8 < wh.length ∧ ¬ 4 < ord.xs.length ∧ ¬ 8 < sel.xs.length ∧ ¬ 4 < keys.xs.length ∧ 4 < sums.xs.length) := by omega
    clear hf
    rcases hcase with h1 | ⟨h1, h2⟩ | ⟨h1, h2, h3⟩ | ⟨h1, h2, h3, h4⟩ | ⟨h1, h2, h3, h4, h5⟩ | ⟨h1, h2, h3, h4, h5, h6⟩
    all_goals
      go_enter Try.func42, Try.ntmps42
      go_wp2
      go_ret
      exact ⟨ret_bool HF.out, below_alloc _ _⟩
  · have HF : Hid (wideB wh wh.length = FB) := show wideB wh wh.length = FB by rw [HE.out, decide_eq_false hf, Bool.false_or]
    have h1 : ¬ 5 < src.xs.length := by omega
    have h2 : ¬ 8 < wh.length := by omega
    have h3 : ¬ 8 < sel.xs.length := by omega
    have h4 : ¬ 4 < keys.xs.length := by omega
    have h5 : ¬ 4 < sums.xs.length := by omega
    have h6 : ¬ 4 < ord.xs.length := by omega
    clear HE hf
    generalize wideB wh wh.length = Y at *
    go_enter Try.func42, Try.ntmps42
    go_wp2_with fail
    refine (hC _).mono ?_
    clear hC
    rintro e w2 ⟨rfl, hb2⟩
    go_wp2
    go_ret
    exact ⟨ret_bool HF.out, Below.step (below_alloc _ _) hb2⟩

theorem outWidth_any (q : QueryV) (w : World) (h1 : q.keys.xs.length ≤ 1000) (h2 : q.sums.xs.length ≤ 1000) :
    Calls Try.prog 66 #[.agg q.cells] w fun e w' => e = .returned (.int .i64 (outN q.group q.keys.xs q.sums.xs q.sel.xs)) ∧ Below w.heap.size w w' := by
  obtain ⟨src, wad, wcap, wh, group, keys, sums, sel, ord⟩ := q
  simp only at h1 h2
  unfold QueryV.cells IntsV.val
  cases group
  · go_enter Try.func66, Try.ntmps66
    go_wp2
    go_ret
    exact ⟨ret_int rfl, below_alloc _ _⟩
  · go_enter Try.func66, Try.ntmps66
    go_wp2
    go_ret
    exact ⟨ret_int rfl, below_alloc _ _⟩

set_option maxHeartbeats 2000000 in
theorem countColumns_any (ao : Option Addr) (cap : Nat) (ts : List TableD) (sad : Option Addr) (scap : Nat) (xs : List Int) (w : World) (hx : TablesAt w ao ts) (hc : catB ts = true) (hq : IntsAt w sad xs) (h5 : xs.length ≤ 5) (ha : allB xs ts.length = true) :
    Calls Try.prog 63 #[.slice ao ts.length cap, .slice sad xs.length scap] w fun e w' => e = .returned (.int .i64 (widthN ts xs)) ∧ w' = w := by
  have hl := hx.1
  have HC : Hid (catB ts = true) := hc
  have HA : Hid (allB xs ts.length = true) := ha
  clear hc ha
  go_enter Try.func63, Try.ntmps63
  go_wp2
  go_loop [5, 10] (fun n i => ∃ k : Nat, k ≤ xs.length ∧ i = .int .i64 k ∧ n = .int .i64 (widthN ts (xs.take k))) (fun _ i => xs.length - (intOf i).toNat)
  case atStart => exact ⟨0, Nat.zero_le _, rfl, rfl⟩
  case round =>
    obtain ⟨k, hk, rfl, rfl⟩ := hrel
    have hbd := widthN_bd HC.out HA.out k hk
    by_cases hlt : k < xs.length
    · obtain ⟨sb, soff, rfl, hs⟩ := hq.get hlt
      have hsk := hs k hlt
      have hr := allB_at HA.out hlt
      have hcol := cols_of HC.out (i := xs[k].toNat) (by omega)
      obtain ⟨b, off, rfl, c0, -⟩ := hx.2 xs[k].toNat (by omega)
      have HS : Hid (widthN ts (xs.take (k + 1)) = widthN ts (xs.take k) + (ts.getD xs[k].toNat tz).cols) := widthN_snoc ts xs k hlt
      generalize (ts.getD xs[k].toNat tz).cols = cc at *
      generalize widthN ts (xs.take k) = W0 at *
      clear hs hx hq
      go_wp2
      go_round
      case rel => exact ⟨k + 1, by omega, by go_num, by rw [HS.out]⟩
      case measure => simp [intOf]; omega
    · go_wp2
      go_ret
      have : k = xs.length := by omega
      subst this
      exact ⟨ret_int (by rw [List.take_length]), rfl⟩

end Go.Proofs.Ytlpbelhfpoilpaa

