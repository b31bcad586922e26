import Derived.Test.YtpkihnafdaedoaaSameA
namespace Go.Proofs.Ytpkihnafdaedoaa
open Go.RowKit Go.Scout

set_option maxRecDepth 20000 in
set_option maxHeartbeats 4000000 in
theorem sameWhere_true (ao bo : Option Addr) (cap cap' : Nat) (ls ms : List ClauseV) (w : World) (hx : ClausesAt w ao ls) (hy : ClausesAt w bo ms) (he : ls.length = ms.length) (hcs : ∀ i, i < ls.length → (ls.getD i lz).cs = (ms.getD i lz).cs) :
    Calls Try.prog 29 #[.slice ao ls.length cap, .slice bo ms.length cap'] w fun e w' => e = .returned (.bool true) ∧ Below w.heap.size w w' := by
  have hl := hx.1
  rw [← he]
  have hne : ((ls.length : Int) != ls.length) = false := by simp
  go_enter Try.func29, Try.ntmps29
  go_wp2
  go_loopw [5] (fun i wr => ∃ k : Nat, k ≤ ls.length ∧ i = .int .i64 k ∧ ∃ n, wr = w.drewN n) (fun i _ => ls.length - (intOf i).toNat)
  case atStart => exact ⟨0, Nat.zero_le _, rfl, 0, rfl⟩
  case round =>
    obtain ⟨k, hk, rfl, n, rfl⟩ := hrel
    by_cases hlt : k < ls.length
    · obtain ⟨b, off, rfl, hc⟩ := hx.2.1.get hlt
      obtain ⟨b', off', rfl, hc'⟩ := hy.2.1.get (show k < ms.length by omega)
      have h1 := hc k hlt
      have h2 := hc' k (by omega)
      have hd1 := hx.2.2 k hlt
      have hd2 := hy.2.2 k (by omega)
      have hee := hcs k hlt
      clear hc hc' hx hy hcs
      generalize ls.getD k lz = c1 at *
      generalize ms.getD k lz = c2 at *
      obtain ⟨ad1, cp1, cs1⟩ := c1
      obtain ⟨ad2, cp2, cs2⟩ := c2
      simp only at hee hd1 hd2
      subst hee
      unfold ClauseV.val at h1 h2
      simp only at h1 h2
      have hcl := hd1.1
      have hnn : ((cs1.length : Int) != cs1.length) = false := by simp
      go_wp2
      go_quiet (fail)
      go_wp2
      go_loopw [6] (fun i wr => ∃ m : Nat, m ≤ cs1.length ∧ i = .int .i64 m ∧ ∃ n, wr = w.drewN n) (fun i _ => cs1.length - (intOf i).toNat)
      case atStart => exact ⟨0, Nat.zero_le _, rfl, _, World.drewN_drewN _ _ _⟩
      case round =>
        obtain ⟨m, hm, rfl, n2, rfl⟩ := hrel
        by_cases hml : m < cs1.length
        · obtain ⟨b3, off3, rfl, e0, e1, e2, e3, e4⟩ := hd1.2 m hml
          obtain ⟨b4, off4, rfl, i0, i1, i2, i3, i4⟩ := hd2.2 m hml
          generalize cs1.getD m cz = cc at *
          clear hd1 hd2
          go_wp2
          go_quiet (fail)
          go_wp2
          go_roundw
          case rel => exact ⟨m + 1, by omega, by go_num, _, rfl⟩
          case measure => simp [intOf]; omega
        · go_wp2
          go_roundw
          case rel => exact ⟨k + 1, by omega, by go_num, _, rfl⟩
          case measure => simp [intOf]; omega
    · go_wp2
      go_ret
      exact ⟨rfl, below_drewN (Below.refl _ _) _⟩

end Go.Proofs.Ytpkihnafdaedoaa
