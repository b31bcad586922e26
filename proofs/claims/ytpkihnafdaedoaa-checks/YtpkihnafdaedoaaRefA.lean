import Derived.Test.YtpkihnafdaedoaaWidth
import Derived.Test.YtpkihnafdaedoaaBase3
namespace Go.Proofs.Ytpkihnafdaedoaa
open Go.RowKit Go.Scout

set_option maxRecDepth 100000 in
set_option maxHeartbeats 2000000 in
theorem ref_nocat (ao : Option Addr) (cap : Nat) (ts : List TableD) (q : QueryV) (w : World) (hx : TablesAt w ao ts) (hc : catB ts = false) :
    Calls Try.prog 8 #[.slice ao ts.length cap, .agg q.cells] w fun e w' => e = .returned (.int .i64 (q.check ts)) ∧ Below w.heap.size w w' := by
  have HF : Hid ((1 : Int) = q.check ts) := QueryV.check_cat hc
  have hx1 := fun o => hx.below (below_alloc w o)
  generalize q.check ts = R at *
  generalize hq : q.cells = C at *
  have hC : C.size = 7 := by rw [← hq]; rfl
  unfold QueryV.cells IntsV.val at hq
  subst hq
  go_enter Try.func8, Try.ntmps8
  go_wp2_with (go_at_call 23; refine (isCatalog_any _ _ _ _ (hx1 _)).mono ?_; rw [hc]; rintro e w' ⟨rfl, hb⟩)
  go_ret
  exact ⟨ret_int HF.out, Below.step (below_alloc _ _) (by assumption)⟩

end Go.Proofs.Ytpkihnafdaedoaa
