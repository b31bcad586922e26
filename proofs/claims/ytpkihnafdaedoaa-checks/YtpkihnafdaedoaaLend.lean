import Derived.Test.YtpkihnafdaedoaaProg
import Derived.Test.YtpkihnafdaedoaaBase5
namespace Go.Proofs.Ytpkihnafdaedoaa
open Go.RowKit Go.Scout

theorem Try.info3 : (Try.prog.info? 3).map (fun i => (i.zero, i.size, i.bytes)) = some (some (.int .i64 0), 1, 8) := by kernel_rfl
theorem Try.size3 : (Try.prog.info? 3).map (·.size) = some 1 := by kernel_rfl

set_option maxRecDepth 20000 in
set_option maxHeartbeats 4000000 in
theorem lend_any (ao : Option Addr) (cap : Nat) (xs : List Int) (w : World) (hx : IntsAt w ao xs) (hsz : xs.length * 8 ≤ 140737488351232) :
    Calls Try.prog 19 #[.slice ao xs.length cap] w fun e w' => e = .returned (.slice (some ⟨w.heap.size, 0, none⟩) xs.length (xs.length + 2)) ∧ w' = w.alloc (.cells (lentCells xs) 3) := by
  have hmk := run_make_row' (P := Try.prog) 23 3 (.int .i64 0) 8 Try.underlying23 Try.info3 rfl .i64 .i64 (xs.length + 2) (by omega) (by omega)
  have hcast : ((xs.length + 2 : Nat) : Int) = (xs.length : Int) + 2 := by omega
  rw [hcast] at hmk
  have hcp := fun ty => run_copy_lend (P := Try.prog) w 23 3 ao cap xs hx Try.underlying23 Try.size3 ty
  have hs1 := setCell_alloc_lend1 w xs 3
  have hs2 := setCell_alloc_lend2 w xs 3
  have ha1 := lend1_at xs
  have ha2 := lend2_at xs
  clear hcast hx
  go_enter Try.func19, Try.ntmps19
  go_wp2
  go_ret
  exact ⟨rfl, rfl⟩

end Go.Proofs.Ytpkihnafdaedoaa
