import Derived.Test.YtdbkdomhlkcbpaaProg
import Derived.Deep.QuietTactic
import Derived.BigQuiet
import Derived.Test.YtdbkdomhlkcbpaaCBaseBase2Base3Base4
set_option linter.all false
namespace Go.Proofs.Ytdbkdomhlkcbpaa
open Go.RowKit Go.Scout

theorem all_any (ao : Option Addr) (cap : Nat) (xs : List Int) (n : Int) (w : World) (hx : IntsAt w ao xs) :
    Calls Try.prog 24 #[.slice ao xs.length cap, .int .i64 n] w fun e w' => e = .returned (.bool (allB xs n)) ∧ w' = w := by
  have hl := hx.1
  go_enter Try.func24, Try.ntmps24
  go_wp2
  go_loop [5] (fun i => ∃ k : Nat, k ≤ xs.length ∧ i = .int .i64 k ∧ Hid (allB (xs.take k) n = true)) (fun i => xs.length - (intOf i).toNat)
  case atStart => exact ⟨0, Nat.zero_le _, rfl, rfl⟩
  case round =>
    obtain ⟨k, hk, rfl, HP⟩ := hrel
    by_cases hlt : k < xs.length
    · obtain ⟨b, off, rfl, hc⟩ := hx.get hlt
      have hck := hc k hlt
      clear hc hx
      by_cases h1 : xs[k] < 0
      · go_wp2
        go_ret
        exact ⟨ret_bool (allB_bad xs n k hlt (by omega)).symm, rfl⟩
      · by_cases h2 : xs[k] < n
        · go_wp2
          go_round
          case rel => exact ⟨k + 1, by omega, by go_num, allB_step hlt HP.out h1 h2⟩
          case measure => simp [intOf]; omega
        · go_wp2
          go_ret
          exact ⟨ret_bool (allB_bad xs n k hlt (by omega)).symm, rfl⟩
    · go_wp2
      go_ret
      exact ⟨ret_bool (allB_whole hk hlt HP.out), rfl⟩

theorem apart_any (ao : Option Addr) (cap : Nat) (xs : List Int) (w : World) (hx : IntsAt w ao xs) :
    Calls Try.prog 28 #[.slice ao xs.length cap] w fun e w' => e = .returned (.bool (apartB xs)) ∧ ∃ n, w' = w.drewN n := by
  have hl := hx.1
  go_enter Try.func28, Try.ntmps28
  go_wp2
  go_loopw [3] (fun i wr => ∃ k : Nat, k ≤ xs.length ∧ i = .int .i64 k ∧ Hid (∀ i, i < k → ∀ j, j < i → xs.getD i 0 ≠ xs.getD j 0) ∧ ∃ n, wr = w.drewN n) (fun i _ => xs.length - (intOf i).toNat)
  case atStart => exact ⟨0, Nat.zero_le _, rfl, fun i hi => absurd hi (by omega), 0, rfl⟩
  case round =>
    obtain ⟨k, hk, rfl, HP, n, rfl⟩ := hrel
    by_cases hlt : k < xs.length
    · obtain ⟨b, off, rfl, hc⟩ := hx.get hlt
      have hck := hc k hlt
      have HC : Hid (∀ j, j < xs.length → w.cell? ⟨b, off + j, none⟩ = some (.int .i64 (xs.getD j 0))) := hc
      clear hc hx
      go_wp2
      go_loopw [4] (fun i wr => ∃ m : Nat, m ≤ k ∧ i = .int .i64 m ∧ Hid (∀ j, j < m → xs.getD k 0 ≠ xs.getD j 0) ∧ ∃ n, wr = w.drewN n) (fun i _ => k - (intOf i).toNat)
      case atStart => exact ⟨0, Nat.zero_le _, rfl, fun j hj => absurd hj (by omega), n, rfl⟩
      case round =>
        obtain ⟨m, hm, rfl, HM, n', rfl⟩ := hrel
        by_cases hml : m < k
        · have hmm : m < xs.length := by omega
          have hcm := HC.out m hmm
          by_cases he : xs[k] = xs[m]
          · have he' : (xs[k] == xs[m]) = true := by simpa using he
            have HE : Hid (xs[k] = xs[m]) := he
            clear he
            go_wp2
            go_quiet (fail)
            go_wp2
            go_ret
            exact ⟨ret_bool (apartB_bad hlt hml (by simpa [hlt, hmm] using HE.out)), _, World.drewN_drewN _ _ _⟩
          · have he' : (xs[k] == xs[m]) = false := by simpa using he
            have HE : Hid (¬ xs[k] = xs[m]) := he
            clear he
            go_wp2
            go_quiet (fail)
            go_wp2
            go_roundw
            case rel =>
              refine ⟨m + 1, by omega, by go_num, fun j hj => ?_, _, rfl⟩
              by_cases hjm : j = m
              · subst hjm; simpa [hlt, hmm] using HE.out
              · exact HM.out j (by omega)
            case measure => simp [intOf]; omega
        · go_wp2
          go_roundw
          case rel =>
            refine ⟨k + 1, by omega, by go_num, fun i hi => ?_, _, rfl⟩
            by_cases hik : i = k
            · subst hik; exact fun j hj => HM.out j (by omega)
            · exact HP.out i (by omega)
          case measure => simp [intOf]; omega
    · go_wp2
      go_ret
      have hkk : k = xs.length := by omega
      subst hkk
      exact ⟨ret_bool (apartB_good HP.out), _, rfl⟩

theorem from_any (lo v hi : Int) (w : World) :
    Calls Try.prog 44 #[.int .i64 lo, .int .i64 v, .int .i64 hi] w fun e w' => e = .returned (.bool (decide (lo ≤ v) && decide (v ≤ hi))) ∧ w' = w := by
  by_cases h1 : lo ≤ v
  · by_cases h2 : v ≤ hi
    · go_enter Try.func44, Try.ntmps44
      go_wp2
      go_ret
      exact ⟨ret_bool (by simp; omega), rfl⟩
    · go_enter Try.func44, Try.ntmps44
      go_wp2
      go_ret
      exact ⟨ret_bool (by simp; omega), rfl⟩
  · go_enter Try.func44, Try.ntmps44
    go_wp2
    go_ret
    exact ⟨ret_bool (by simp; omega), rfl⟩

end Go.Proofs.Ytdbkdomhlkcbpaa

