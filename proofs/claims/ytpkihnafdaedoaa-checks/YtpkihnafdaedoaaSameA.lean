import Derived.Test.YtpkihnafdaedoaaGive0
namespace Go.Proofs.Ytpkihnafdaedoaa
open Go.RowKit Go.Scout

set_option maxHeartbeats 2000000 in
theorem sameInts_any (ao bo : Option Addr) (cap cap' : Nat) (xs : List Int) (w : World) (hx : IntsAt w ao xs) (hy : IntsAt w bo xs) :
    Calls Try.prog 45 #[.slice ao xs.length cap, .slice bo xs.length cap'] w fun e w' => e = .returned (.bool true) ∧ ∃ n, w' = w.drewN n := by
  have hl := hx.1
  have hne : ((xs.length : Int) != xs.length) = false := by simp
  go_enter Try.func45, Try.ntmps45
  go_wp2
  go_loopw [5] (fun i wr => ∃ k : Nat, k ≤ xs.length ∧ i = .int .i64 k ∧ ∃ n, wr = w.drewN n) (fun i _ => xs.length - (intOf i).toNat)
  case atStart => exact ⟨0, Nat.zero_le _, rfl, 0, rfl⟩
  case round =>
    obtain ⟨k, hk, rfl, n, rfl⟩ := hrel
    by_cases hlt : k < xs.length
    · obtain ⟨b, off, rfl, hc⟩ := hx.get hlt
      obtain ⟨b', off', rfl, hc'⟩ := hy.get hlt
      have h1 := hc k hlt
      have h2 := hc' k hlt
      clear hc hc' hx hy
      generalize xs.getD k 0 = x at *
      have hxx : (x != x) = false := by simp
      go_wp2
      go_quiet (fail)
      go_wp2
      go_roundw
      case rel => exact ⟨k + 1, by omega, by go_num, _, rfl⟩
      case measure => simp [intOf]; omega
    · go_wp2
      go_ret
      exact ⟨rfl, _, rfl⟩

theorem lentAt {w : World} {b : Nat} {xs : List Int} {t : TypeId} (h : GB w b t (lentCells xs)) (hl : xs.length ≤ 1152921504606846976) : IntsAt w (some ⟨b, 0, none⟩) xs := by
  refine ⟨hl, fun i hi => ⟨b, 0, rfl, ?_⟩⟩
  rw [Nat.zero_add, h.cell i]
  unfold lentCells
  rw [List.getElem?_toArray, List.getElem?_append_left (by simpa using hi), List.getElem?_map]
  simp [List.getD, hi]

theorem lent_i0 (xs : List Int) : (lentCells xs)[xs.length]? = some (.int .i64 77777) := by simp [lentCells]
theorem lent_i1 (xs : List Int) : (lentCells xs)[xs.length + 1]? = some (.int .i64 77777) := by simp [lentCells]

set_option maxHeartbeats 2000000 in
theorem lent_true (b : Nat) (bo : Option Addr) (cap' : Nat) (xs : List Int) (w : World) (hG : GB w b 3 (lentCells xs)) (hy : IntsAt w bo xs) :
    Calls Try.prog 30 #[.slice (some ⟨b, 0, none⟩) xs.length (xs.length + 2), .slice bo xs.length cap'] w fun e w' => e = .returned (.bool true) ∧ Below w.heap.size w w' := by
  have hl := hy.1
  have hne : ((xs.length : Int) != xs.length) = false := by simp
  have h0 : w.cell? ⟨b, xs.length, none⟩ = some (.int .i64 77777) := by rw [hG.cell, lent_i0]
  have h1 : w.cell? ⟨b, xs.length + 1, none⟩ = some (.int .i64 77777) := by rw [hG.cell, lent_i1]
  have hC := sameInts_any (some ⟨b, 0, none⟩) bo (xs.length + 2) cap' xs w (lentAt hG hl) hy
  go_enter Try.func30, Try.ntmps30
  go_wp2_with fail
  refine hC.mono ?_
  clear hC
  rintro e w2 ⟨rfl, n, rfl⟩
  go_wp2
  go_ret
  exact ⟨rfl, below_drewN (Below.refl _ _) _⟩

theorem inked_true (b : Nat) (w : World) (hG : GB w b 3 #[.int .i64 77777]) :
    Calls Try.prog 46 #[.slice (some ⟨b, 0, none⟩) 1 1] w fun e w' => e = .returned (.bool true) ∧ w' = w := by
  have h0 : w.cell? ⟨b, 0, none⟩ = some (.int .i64 77777) := hG.cell 0
  go_enter Try.func46, Try.ntmps46
  go_wp2
  go_ret
  exact ⟨rfl, rfl⟩

end Go.Proofs.Ytpkihnafdaedoaa
