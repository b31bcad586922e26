import Derived.Test.YtlpbelhfpoilpaaCProgFProgGProgHAll
set_option linter.all false
namespace Go.Proofs.Ytlpbelhfpoilpaa
open Go.RowKit Go.Scout

theorem condB_bad {c : CondD} {n : Int} (h : c.left < 0 ∨ n ≤ c.left ∨ c.op < 0 ∨ 2 < c.op) : false = condB c n := by
  unfold condB
  symm
  rw [Bool.and_eq_false_iff]
  left
  simp
  omega

theorem condB_nil {c : CondD} {n : Int} (h : ¬ (c.left < 0 ∨ n ≤ c.left ∨ c.op < 0 ∨ 2 < c.op)) (h2 : c.op = 2) : (!c.const && decide (c.right = 0)) = condB c n := by
  unfold condB
  rw [if_pos h2]
  have : (decide (0 ≤ c.left) && decide (c.left < n) && decide (0 ≤ c.op) && decide (c.op ≤ 2)) = true := by simp; omega
  rw [this, Bool.true_and]

theorem condB_const {c : CondD} {n : Int} (h : ¬ (c.left < 0 ∨ n ≤ c.left ∨ c.op < 0 ∨ 2 < c.op)) (h2 : ¬ c.op = 2) (h3 : c.const = true) : (decide (-1000 ≤ c.right) && decide (c.right ≤ 1000)) = condB c n := by
  unfold condB
  rw [if_neg h2, if_pos h3]
  have : (decide (0 ≤ c.left) && decide (c.left < n) && decide (0 ≤ c.op) && decide (c.op ≤ 2)) = true := by simp; omega
  rw [this, Bool.true_and]

theorem condB_cols {c : CondD} {n : Int} (h : ¬ (c.left < 0 ∨ n ≤ c.left ∨ c.op < 0 ∨ 2 < c.op)) (h2 : ¬ c.op = 2) (h3 : c.const = false) : (decide (0 ≤ c.right) && decide (c.right ≤ n - 1)) = condB c n := by
  unfold condB
  rw [if_neg h2, if_neg (by simp [h3])]
  have : (decide (0 ≤ c.left) && decide (c.left < n) && decide (0 ≤ c.op) && decide (c.op ≤ 2)) = true := by simp; omega
  rw [this, Bool.true_and]

set_option maxHeartbeats 1000000 in
theorem isCond_any (c : CondD) (n : Int) (w : World) (hn : 0 ≤ n) (hn2 : n ≤ 1000) :
    Calls Try.prog 26 #[c.val, .int .i64 n] w fun e w' => e = .returned (.bool (condB c n)) ∧ Below w.heap.size w w' := by
  have hbad := @condB_bad c n
  have hnil := @condB_nil c n
  have hconst := @condB_const c n
  have hcols := @condB_cols c n
  obtain ⟨nt, op, left, const, right⟩ := c
  unfold CondD.val
  simp only at hbad hnil hconst hcols
  generalize condB ⟨nt, op, left, const, right⟩ n = B at *
  by_cases h1 : left < 0 ∨ n ≤ left ∨ op < 0 ∨ 2 < op
  · have HB : Hid (false = B) := hbad h1
    clear hbad hnil hconst hcols
    go_enter Try.func26, Try.ntmps26
    go_wp2
    all_goals
      go_ret
      exact ⟨ret_bool HB.out, (Below.refl _ _).alloc (Nat.le_refl _) _⟩
  · have l1 : 0 ≤ left := by omega
    have l2 : left < n := by omega
    have l3 : 0 ≤ op := by omega
    have l4 : op ≤ 2 := by omega
    by_cases h2 : op = 2
    · have HB : Hid ((!const && decide (right = 0)) = B) := hnil h1 h2
      clear hbad hnil hconst hcols h1
      subst h2
      cases const
      · by_cases h3 : right = 0
        · subst h3
          go_enter Try.func26, Try.ntmps26
          go_wp2
          go_ret
          exact ⟨ret_bool HB.out, (Below.refl _ _).alloc (Nat.le_refl _) _⟩
        · have h3' : (right == 0) = false := by simpa using h3
          have HB' : Hid (false = B) := show false = B by have := HB.out; simpa [h3] using this
          clear HB
          go_enter Try.func26, Try.ntmps26
          go_wp2
          go_ret
          exact ⟨ret_bool HB'.out, (Below.refl _ _).alloc (Nat.le_refl _) _⟩
      · go_enter Try.func26, Try.ntmps26
        go_wp2
        go_ret
        exact ⟨ret_bool HB.out, (Below.refl _ _).alloc (Nat.le_refl _) _⟩
    · have h2' : (op == 2) = false := by simpa using h2
      cases const
      · have HB : Hid ((decide (0 ≤ right) && decide (right ≤ n - 1)) = B) := hcols h1 h2 rfl
        clear hbad hnil hconst hcols h1 h2
        go_enter Try.func26, Try.ntmps26
        go_wp2_with (go_at_call 44; refine (from_any _ _ _ _).mono ?_; rintro e w' ⟨rfl, rfl⟩)
        go_ret
        exact ⟨ret_bool HB.out, (Below.refl _ _).alloc (Nat.le_refl _) _⟩
      · have HB : Hid ((decide (-1000 ≤ right) && decide (right ≤ 1000)) = B) := hconst h1 h2 rfl
        clear hbad hnil hconst hcols h1 h2
        go_enter Try.func26, Try.ntmps26
        go_wp2_with (go_at_call 44; refine (from_any _ _ _ _).mono ?_; rintro e w' ⟨rfl, rfl⟩)
        go_ret
        exact ⟨ret_bool HB.out, (Below.refl _ _).alloc (Nat.le_refl _) _⟩

theorem out_any (q : QueryV) (w : World) (h1 : q.keys.xs.length ≤ 1000) (h2 : q.sums.xs.length ≤ 1000) :
    Calls Try.prog 27 #[.agg q.cells] w fun e w' => e = .returned (.int .i64 (outN q.group q.keys.xs q.sums.xs q.sel.xs)) ∧ Below w.heap.size w w' := by
  obtain ⟨src, wad, wcap, wh, group, keys, sums, sel, ord⟩ := q
  simp only at h1 h2
  unfold QueryV.cells IntsV.val
  cases group
  · go_enter Try.func27, Try.ntmps27
    go_wp2
    go_ret
    exact ⟨ret_int rfl, (Below.refl _ _).alloc (Nat.le_refl _) _⟩
  · go_enter Try.func27, Try.ntmps27
    go_wp2
    go_ret
    exact ⟨ret_int rfl, (Below.refl _ _).alloc (Nat.le_refl _) _⟩

end Go.Proofs.Ytlpbelhfpoilpaa

