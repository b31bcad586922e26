import Derived.Test.YtpkihnafdaedoaaCat
import Derived.Test.YtpkihnafdaedoaaBase2
namespace Go.Proofs.Ytpkihnafdaedoaa
open Go.RowKit Go.Scout

set_option maxHeartbeats 2000000 in
theorem width_any (ao : Option Addr) (cap : Nat) (ts : List TableD) (q : QueryV) (w : World) (hx : TablesAt w ao ts) (hc : catB ts = true) (hq : q.src.At w) (h5 : q.src.xs.length ≤ 5) (ha : allB q.src.xs ts.length = true) :
    Calls Try.prog 25 #[.slice ao ts.length cap, .agg q.cells, .int .i64 q.src.xs.length] w fun e w' => e = .returned (.int .i64 (widthN ts q.src.xs)) ∧ Below w.heap.size w w' := by
  obtain ⟨⟨sad, scap, xs⟩, wad, wcap, wh, group, keys, sums, sel, ord⟩ := q
  unfold IntsV.At at hq
  simp only at h5 ha hq
  unfold QueryV.cells IntsV.val
  simp only
  have hl := hx.1
  have HC : Hid (catB ts = true) := hc
  have HA : Hid (allB xs ts.length = true) := ha
  clear hc ha
  go_enter Try.func25, Try.ntmps25
  go_wp2
  go_loop [7, 8] (fun n i => ∃ k : Nat, k ≤ xs.length ∧ i = .int .i64 k ∧ n = .int .i64 (widthN ts (xs.take k))) (fun _ i => xs.length - (intOf i).toNat)
  case atStart => exact ⟨0, Nat.zero_le _, rfl, rfl⟩
  case round =>
    obtain ⟨k, hk, rfl, rfl⟩ := hrel
    have hbd := widthN_bd HC.out HA.out k hk
    by_cases hlt : k < xs.length
    · obtain ⟨sb, soff, rfl, hs⟩ := hq.get hlt
      have hsk := cell_alloc (hs k hlt)
      have hr := allB_at HA.out hlt
      have hcol := cols_of HC.out (i := xs[k].toNat) (by omega)
      obtain ⟨b, off, rfl, c0, -⟩ := hx.2 xs[k].toNat (by omega)
      have hck := cell_alloc c0
      have HS : Hid (widthN ts (xs.take (k + 1)) = widthN ts (xs.take k) + (ts.getD xs[k].toNat tz).cols) := widthN_snoc ts xs k hlt
      generalize (ts.getD xs[k].toNat tz).cols = cc at *
      generalize widthN ts (xs.take k) = W0 at *
      clear hs c0 hx hq
      go_wp2
      go_round
      case rel => exact ⟨k + 1, by omega, by go_num, by rw [HS.out]⟩
      case measure => simp [intOf]; omega
    · go_wp2
      go_ret
      have : k = xs.length := by omega
      subst this
      exact ⟨ret_int (by rw [List.take_length]), (Below.refl _ _).alloc (Nat.le_refl _) _⟩

end Go.Proofs.Ytpkihnafdaedoaa
