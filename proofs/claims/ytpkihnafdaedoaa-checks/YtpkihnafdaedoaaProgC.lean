import Derived.Test.YtpkihnafdaedoaaProgB
namespace Go.Proofs.Ytpkihnafdaedoaa
open Go.RowKit Go.Scout

theorem isBelow_any (n b : Int) (w : World) :
    Calls Try.prog 80 #[.int .i64 n, .int .i64 b] w fun e w' => e = .returned (.bool (inB n b)) ∧ w' = w := by
  by_cases h1 : 0 ≤ n
  · go_enter Try.func80, Try.ntmps80
    go_wp2
    go_ret
    exact ⟨ret_bool (by simp [inB]; omega), rfl⟩
  · go_enter Try.func80, Try.ntmps80
    go_wp2
    go_ret
    exact ⟨ret_bool (by simp [inB]; omega), rfl⟩

theorem isNumber_any (n : Int) (w : World) :
    Calls Try.prog 83 #[.int .i64 n] w fun e w' => e = .returned (.bool (decide (-1000 ≤ n) && decide (n ≤ 1000))) ∧ w' = w := by
  by_cases h1 : -1000 ≤ n
  · go_enter Try.func83, Try.ntmps83
    go_wp2
    go_ret
    exact ⟨ret_bool (by simp; omega), rfl⟩
  · go_enter Try.func83, Try.ntmps83
    go_wp2
    go_ret
    exact ⟨ret_bool (by simp; omega), rfl⟩

theorem allBelow1_any (n b : Int) (p o : Nat) (w : World) (hp : w.cell? ⟨p, o, none⟩ = some (.int .i64 b)) :
    Calls Try.prog 79 #[.int .i64 n, .pointer (some ⟨p, o, none⟩)] w fun e w' => e = .returned (.bool (!inB n b)) ∧ w' = w := by
  have hC := isBelow_any n b w
  generalize inB n b = Y at *
  go_enter Try.func79, Try.ntmps79
  go_wp2_with fail
  refine hC.mono ?_
  clear hC
  rintro e w2 ⟨rfl, rfl⟩
  go_wp2
  go_ret
  exact ⟨ret_bool rfl, rfl⟩

set_option maxHeartbeats 2000000 in
theorem indexI_any (ao : Option Addr) (cap : Nat) (xs : List Int) (bd : Int) (p o : Nat) (w : World) (hx : IntsAt w ao xs) (hp : w.cell? ⟨p, o, none⟩ = some (.int .i64 bd)) :
    Calls Try.prog 96 #[.slice ao xs.length cap, .func (.func 79) #[] #[.pointer (some ⟨p, o, none⟩)]] w fun e w' => ∃ r, e = .returned (.int .i64 r) ∧ foundAt r (xs.any fun x => !inB x bd) ∧ w' = w := by
  have hl := hx.1
  go_enter Try.func96, Try.ntmps96
  go_wp2
  go_loop [8] (fun i => ∃ k : Nat, k ≤ xs.length ∧ i = .int .i64 k ∧ Hid (∀ j, j < k → (!inB (xs.getD j 0) bd) = false)) (fun i => xs.length - (intOf i).toNat)
  case atStart => exact ⟨0, Nat.zero_le _, rfl, fun j hj => absurd hj (by omega)⟩
  case round =>
    obtain ⟨k, hk, rfl, HP⟩ := hrel
    by_cases hlt : k < xs.length
    · obtain ⟨b, off, rfl, hc⟩ := hx.get hlt
      have hck := hc k hlt
      have HA : Hid ((!inB (xs.getD k 0) bd) = true → (xs.any fun x => !inB x bd) = true) := fun h => any_at (z := 0) hlt h
      have hC := allBelow1_any (xs.getD k 0) bd p o w hp
      have HGE : Hid (xs.getD k 0 = xs.getD k 0) := rfl
      generalize hge : xs.getD k 0 = x at *
      have HGE : Hid (xs.getD k 0 = x) := hge
      clear hge hc hx hp
      go_wp2_with fail
      refine hC.mono ?_
      clear hC
      rintro e w2 ⟨rfl, rfl⟩
      cases hB : inB x bd
      · rw [hB] at HA
        go_wp2
        go_ret
        exact ⟨_, ret_int rfl, ⟨by omega, by rw [HA.out rfl]; simp⟩, rfl⟩
      · have HB : Hid (inB x bd = true) := hB
        clear hB
        go_wp2
        go_round
        case rel =>
          refine ⟨k + 1, by omega, by go_num, fun j hj => ?_⟩
          by_cases hjk : j = k
          · subst hjk; rw [HGE.out, HB.out]; rfl
          · exact HP.out j (by omega)
        case measure => simp [intOf]; omega
    · have HA : Hid ((xs.any fun x => !inB x bd) = false) := any_none (z := 0) (fun j hj => HP.out j (by omega))
      go_wp2
      go_ret
      exact ⟨_, ret_int rfl, ⟨by omega, by rw [HA.out]; rfl⟩, rfl⟩

theorem containsI_any (ao : Option Addr) (cap : Nat) (xs : List Int) (bd : Int) (p o : Nat) (w : World) (hx : IntsAt w ao xs) (hp : w.cell? ⟨p, o, none⟩ = some (.int .i64 bd)) :
    Calls Try.prog 78 #[.slice ao xs.length cap, .func (.func 79) #[] #[.pointer (some ⟨p, o, none⟩)]] w fun e w' => e = .returned (.bool (xs.any fun x => !inB x bd)) ∧ w' = w := by
  have hC := indexI_any ao cap xs bd p o w hx hp
  go_enter Try.func78, Try.ntmps78
  go_wp2_with fail
  refine hC.mono ?_
  clear hC
  rintro e w2 ⟨r, rfl, hr, rfl⟩
  have HR : Hid _ := hr.2
  clear hr
  go_wp2
  go_ret
  exact ⟨ret_bool HR.out, rfl⟩

theorem allBelow_any (ao : Option Addr) (cap : Nat) (xs : List Int) (bd : Int) (w : World) (hx : IntsAt w ao xs) :
    Calls Try.prog 62 #[.slice ao xs.length cap, .int .i64 bd] w fun e w' => e = .returned (.bool (allB xs bd)) ∧ Below w.heap.size w w' := by
  have hC := containsI_any ao cap xs bd w.heap.size 0 (w.alloc (.cells #[.int .i64 bd] 3)) (hx.below (below_alloc _ _)) (by simp)
  have HA : Hid _ := allB_any xs bd
  generalize (xs.any fun x => !inB x bd) = Y at *
  have hmf : ∀ (fn : Fn) (first cap : Array Value) (w : World), (Instr.makeFunc fn first cap).run Try.prog w = .ok (.func fn first cap) w := fun _ _ _ _ => rfl
  go_enter Try.func62, Try.ntmps62
  go_wp2_with fail
  refine hC.mono ?_
  clear hC
  rintro e w2 ⟨rfl, rfl⟩
  go_wp2
  go_ret
  exact ⟨ret_bool HA.out, below_alloc _ _⟩

end Go.Proofs.Ytpkihnafdaedoaa
