import Derived.Test.YtlpbelhfpoilpaaProg
import Derived.Test.YtlpbelhfpoilpaaCPure0BaseRPure1DatA
set_option linter.all false
namespace Go.Proofs.Ytlpbelhfpoilpaa
open Go.RowKit Go.Scout

set_option maxRecDepth 20000 in
set_option maxHeartbeats 8000000 in
theorem plainTruth_any (c : CondD) (ao : Option Addr) (cap : Nat) (xs : List Int) (w : World) (hx : IntsAt w ao xs) (hop : c.op = 0 ∨ c.op = 1 ∨ c.op = 2) (hl : 0 ≤ c.left ∧ c.left < xs.length) (hr : c.op = 2 ∨ c.const = true ∨ (0 ≤ c.right ∧ c.right < xs.length)) :
    Calls Try.prog 100 #[c.val, .slice ao xs.length cap] w fun e w' => e = .returned (.int .i64 (truthV c.op (xs.getD c.left.toNat 0) (if c.op = 2 ∨ c.const = true then c.right else xs.getD c.right.toNat 0) + 1)) ∧ Below w.heap.size w w' := by
  have hlen := hx.1
  obtain ⟨b, off, rfl, hc⟩ := hx.get (i := c.left.toNat) (by omega)
  have hcl := cell_alloc (hc c.left.toNat (by omega))
  have hbw := lt_of_cell (hc c.left.toNat (by omega))
  obtain ⟨nt, op, left, const, right⟩ := c
  unfold CondD.val
  simp only at hop hl hr hcl
  simp only
  generalize hL : xs.getD left.toNat 0 = L at *
  rcases hop with rfl | rfl | rfl
  · cases const
    · have hr' : 0 ≤ right ∧ right < xs.length := by
        rcases hr with h | h | h
        · omega
        · cases h
        · exact h
      have hcr := cell_alloc (hc right.toNat (by omega))
      have hRR : (if (0 : Int) = 2 ∨ false = true then right else xs.getD right.toNat 0) = xs.getD right.toNat 0 := if_neg (by simp)
      rw [hRR]
      clear hRR hr hc hx hL
      generalize xs.getD right.toNat 0 = Q at *
      generalize hR : truthV 0 L Q + 1 = R
      by_cases l1 : L = 1073741824
      · have f1 : (L == 1073741824) = true := by simpa using l1
        have HF : Hid ((1 : Int) = R) := show _ = _ by rw [← hR]; simp [truthV, l1]
        clear hR
        go_enter Try.func100, Try.ntmps100
        go_wp2
        go_ret
        exact ⟨ret_int HF.out, below_alloc _ _⟩
      · have f1 : (L == 1073741824) = false := by simpa using l1
        by_cases r1 : Q = 1073741824
        · have f2 : (Q == 1073741824) = true := by simpa using r1
          have HF : Hid ((1 : Int) = R) := show _ = _ by rw [← hR]; simp [truthV, r1]
          clear hR
          go_enter Try.func100, Try.ntmps100
          go_wp2
          go_ret
          exact ⟨ret_int HF.out, below_alloc _ _⟩
        · have f2 : (Q == 1073741824) = false := by simpa using r1
          by_cases h3 : L = Q
          · have f3 : (L == Q) = true := by simpa using h3
            have HF : Hid ((2 : Int) = R) := show _ = _ by rw [← hR]; simp [truthV, l1, r1, h3]
            clear hR
            go_enter Try.func100, Try.ntmps100
            go_wp2
            go_ret
            exact ⟨ret_int HF.out, below_alloc _ _⟩
          · have f3 : (L == Q) = false := by simpa using h3
            have HF : Hid ((0 : Int) = R) := show _ = _ by rw [← hR]; simp [truthV, l1, r1, h3]
            clear hR
            go_enter Try.func100, Try.ntmps100
            go_wp2
            go_ret
            exact ⟨ret_int HF.out, below_alloc _ _⟩
    · have hRR : (if (0 : Int) = 2 ∨ true = true then right else xs.getD right.toNat 0) = right := if_pos (by simp)
      rw [hRR]
      clear hRR hr hc hx hL
      generalize hR : truthV 0 L right + 1 = R
      by_cases l1 : L = 1073741824
      · have f1 : (L == 1073741824) = true := by simpa using l1
        have HF : Hid ((1 : Int) = R) := show _ = _ by rw [← hR]; simp [truthV, l1]
        clear hR
        go_enter Try.func100, Try.ntmps100
        go_wp2
        go_ret
        exact ⟨ret_int HF.out, below_alloc _ _⟩
      · have f1 : (L == 1073741824) = false := by simpa using l1
        by_cases r1 : right = 1073741824
        · have f2 : (right == 1073741824) = true := by simpa using r1
          have HF : Hid ((1 : Int) = R) := show _ = _ by rw [← hR]; simp [truthV, r1]
          clear hR
          go_enter Try.func100, Try.ntmps100
          go_wp2
          go_ret
          exact ⟨ret_int HF.out, below_alloc _ _⟩
        · have f2 : (right == 1073741824) = false := by simpa using r1
          by_cases h3 : L = right
          · have f3 : (L == right) = true := by simpa using h3
            have HF : Hid ((2 : Int) = R) := show _ = _ by rw [← hR]; simp [truthV, l1, r1, h3]
            clear hR
            go_enter Try.func100, Try.ntmps100
            go_wp2
            go_ret
            exact ⟨ret_int HF.out, below_alloc _ _⟩
          · have f3 : (L == right) = false := by simpa using h3
            have HF : Hid ((0 : Int) = R) := show _ = _ by rw [← hR]; simp [truthV, l1, r1, h3]
            clear hR
            go_enter Try.func100, Try.ntmps100
            go_wp2
            go_ret
            exact ⟨ret_int HF.out, below_alloc _ _⟩
  · cases const
    · have hr' : 0 ≤ right ∧ right < xs.length := by
        rcases hr with h | h | h
        · omega
        · cases h
        · exact h
      have hcr := cell_alloc (hc right.toNat (by omega))
      have hRR : (if (1 : Int) = 2 ∨ false = true then right else xs.getD right.toNat 0) = xs.getD right.toNat 0 := if_neg (by simp)
      rw [hRR]
      clear hRR hr hc hx hL
      generalize xs.getD right.toNat 0 = Q at *
      generalize hR : truthV 1 L Q + 1 = R
      by_cases l1 : L = 1073741824
      · have f1 : (L == 1073741824) = true := by simpa using l1
        have HF : Hid ((1 : Int) = R) := show _ = _ by rw [← hR]; simp [truthV, l1]
        clear hR
        go_enter Try.func100, Try.ntmps100
        go_wp2
        go_ret
        exact ⟨ret_int HF.out, below_alloc _ _⟩
      · have f1 : (L == 1073741824) = false := by simpa using l1
        by_cases r1 : Q = 1073741824
        · have f2 : (Q == 1073741824) = true := by simpa using r1
          have HF : Hid ((1 : Int) = R) := show _ = _ by rw [← hR]; simp [truthV, r1]
          clear hR
          go_enter Try.func100, Try.ntmps100
          go_wp2
          go_ret
          exact ⟨ret_int HF.out, below_alloc _ _⟩
        · have f2 : (Q == 1073741824) = false := by simpa using r1
          by_cases h3 : L < Q
          · have HF : Hid ((2 : Int) = R) := show _ = _ by rw [← hR]; simp [truthV, l1, r1, h3]
            clear hR
            go_enter Try.func100, Try.ntmps100
            go_wp2
            go_ret
            exact ⟨ret_int HF.out, below_alloc _ _⟩
          · have HF : Hid ((0 : Int) = R) := show _ = _ by rw [← hR]; simp [truthV, l1, r1, h3]
            clear hR
            go_enter Try.func100, Try.ntmps100
            go_wp2
            go_ret
            exact ⟨ret_int HF.out, below_alloc _ _⟩
    · have hRR : (if (1 : Int) = 2 ∨ true = true then right else xs.getD right.toNat 0) = right := if_pos (by simp)
      rw [hRR]
      clear hRR hr hc hx hL
      generalize hR : truthV 1 L right + 1 = R
      by_cases l1 : L = 1073741824
      · have f1 : (L == 1073741824) = true := by simpa using l1
        have HF : Hid ((1 : Int) = R) := show _ = _ by rw [← hR]; simp [truthV, l1]
        clear hR
        go_enter Try.func100, Try.ntmps100
        go_wp2
        go_ret
        exact ⟨ret_int HF.out, below_alloc _ _⟩
      · have f1 : (L == 1073741824) = false := by simpa using l1
        by_cases r1 : right = 1073741824
        · have f2 : (right == 1073741824) = true := by simpa using r1
          have HF : Hid ((1 : Int) = R) := show _ = _ by rw [← hR]; simp [truthV, r1]
          clear hR
          go_enter Try.func100, Try.ntmps100
          go_wp2
          go_ret
          exact ⟨ret_int HF.out, below_alloc _ _⟩
        · have f2 : (right == 1073741824) = false := by simpa using r1
          by_cases h3 : L < right
          · have HF : Hid ((2 : Int) = R) := show _ = _ by rw [← hR]; simp [truthV, l1, r1, h3]
            clear hR
            go_enter Try.func100, Try.ntmps100
            go_wp2
            go_ret
            exact ⟨ret_int HF.out, below_alloc _ _⟩
          · have HF : Hid ((0 : Int) = R) := show _ = _ by rw [← hR]; simp [truthV, l1, r1, h3]
            clear hR
            go_enter Try.func100, Try.ntmps100
            go_wp2
            go_ret
            exact ⟨ret_int HF.out, below_alloc _ _⟩
  · have hRR : (if (2 : Int) = 2 ∨ const = true then right else xs.getD right.toNat 0) = right := if_pos (by simp)
    rw [hRR]
    clear hRR hr hc hx hL
    generalize hR : truthV 2 L right + 1 = R
    by_cases l1 : L = 1073741824
    · have f1 : (L == 1073741824) = true := by simpa using l1
      have HF : Hid ((2 : Int) = R) := show _ = _ by rw [← hR]; simp [truthV, l1]
      clear hR
      go_enter Try.func100, Try.ntmps100
      go_wp2
      go_ret
      exact ⟨ret_int HF.out, below_alloc _ _⟩
    · have f1 : (L == 1073741824) = false := by simpa using l1
      have HF : Hid ((0 : Int) = R) := show _ = _ by rw [← hR]; simp [truthV, l1]
      clear hR
      go_enter Try.func100, Try.ntmps100
      go_wp2
      go_ret
      exact ⟨ret_int HF.out, below_alloc _ _⟩

end Go.Proofs.Ytlpbelhfpoilpaa

