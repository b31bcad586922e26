import Derived.RegionTactic
import Derived.RegionCalls
import Derived.Test.YtlpbelhfpoilpaaCPure2EvPGrAGrB
set_option linter.all false
namespace Go.Scout
open Go.RowKit

def nullI : Int := 1073741824
def addV (s v : Int) : Int := if v = 1073741824 then s else if s = 1073741824 then v else s + v

end Go.Scout
namespace Go.Proofs.Ytlpbelhfpoilpaa
open Go.RowKit Go.Scout

set_option maxRecDepth 20000 in
set_option maxHeartbeats 4000000 in
theorem addValue_any (s v : Int) (w : World) (hs : -2305843009213693952 ≤ s ∧ s ≤ 2305843009213693952) (hv : -2305843009213693952 ≤ v ∧ v ≤ 2305843009213693952) :
    Calls Try.prog 111 #[.int .i64 s, .int .i64 v] w fun e w' => e = .returned (.int .i64 (addV s v)) ∧ w' = w := by
  have hw : wrap64 (s + v) = s + v := by unfold wrap64; omega
  unfold addV
  by_cases h1 : v = 1073741824
  · rw [if_pos h1]
    subst h1
    go_enter Try.func111, Try.ntmps111
    go_wp2
    go_ret
    exact ⟨rfl, rfl⟩
  · rw [if_neg h1]
    by_cases h2 : s = 1073741824
    · rw [if_pos h2]
      subst h2
      go_enter Try.func111, Try.ntmps111
      go_wp2
      go_ret
      exact ⟨rfl, rfl⟩
    · rw [if_neg h2]
      go_enter Try.func111, Try.ntmps111
      go_wp2
      go_ret
      exact ⟨rfl, rfl⟩

set_option maxRecDepth 20000 in
set_option maxHeartbeats 4000000 in
theorem newGroup_any (k : IntsV) (n : Nat) (w : World) (hn : n ≤ 4) :
    Calls Try.prog 104 #[k.val, .int .i64 n] w fun e w' => e = .returned (.pointer (some ⟨w.heap.size + 2, 0, none⟩)) ∧
      w'.heap[w.heap.size + 2]? = some (.cells #[k.val, .int .i64 0, .slice (some ⟨w.heap.size + 1, 0, none⟩) n n] 137) ∧
      w'.heap[w.heap.size + 1]? = some (.cells (List.replicate n (Value.int .i64 1073741824)).toArray 3) ∧ Below w.heap.size w w' ∧ w'.heap.size = w.heap.size + 3 := by
  obtain ⟨kad, kcap, kxs⟩ := k
  unfold IntsV.val
  simp only
  have hb1 := below_alloc w (.cells #[.int .i64 1073741824] 3)
  have hr := repeat_any w.heap.size 1073741824 n (w.alloc (.cells #[.int .i64 1073741824] 3)) hn (by simp)
  have hs1 : (w.alloc (.cells #[.int .i64 1073741824] 3)).heap.size = w.heap.size + 1 := by simp
  rw [hs1] at hr
  obtain ⟨w1, hw1⟩ : ∃ w1, w.alloc (.cells #[.int .i64 1073741824] 3) = w1 := ⟨_, rfl⟩
  have HW1 : Hid _ := hw1
  have HS1 : Hid _ := hs1
  have HB1 : Hid _ := hb1
  clear hs1 hb1
  rw [hw1] at hr
  clear hw1
  go_enter Try.func104, Try.ntmps104
  go_wp2_with fail
  rw [HW1.out]
  refine hr.mono ?_
  rintro e w2 ⟨rfl, hg2, hb2, hs2⟩
  have HG2 : Hid _ := hg2
  have HB2 : Hid _ := hb2
  have HS2 : Hid _ := hs2
  clear hr hg2 hb2 hs2
  go_wp2
  go_ret
  have h2 : w2.heap.size = w.heap.size + 2 := HS2.out
  have hbw : Below w.heap.size w w2 := by
    have := HB1.out
    rw [HW1.out] at this
    exact this.trans (HB2.out.mono (by omega))
  rw [← h2]
  refine ⟨rfl, heap_alloc_new _ _, ?_, hbw.alloc (by omega) _, by simp; omega⟩
  exact (Below.heap_alloc w2 _ _ (by omega)).trans HG2.out

theorem cells_cell {W : World} {b : Nat} {cs : Array Value} {t : TypeId} (h : W.heap[b]? = some (.cells cs t)) {i : Nat} {v : Value} (hv : cs[i]? = some v) : W.cell? ⟨b, i, none⟩ = some v := by
  simp [World.cell?, h, hv]
theorem cells_thaw {W : World} {b : Nat} {cs : Array Value} {t : TypeId} (h : W.heap[b]? = some (.cells cs t)) (i : Nat) : W.frozen? ⟨b, i, none⟩ = false := by
  simp [World.frozen?, h]
theorem cells_set {W : World} {b : Nat} {cs : Array Value} {t : TypeId} (h : W.heap[b]? = some (.cells cs t)) (i : Nat) (v : Value) : (W.setCell ⟨b, i, none⟩ v).heap[b]? = some (.cells (cs.setIfInBounds i v) t) := by
  rw [setCell_eq_setRow W b i cs t (0, 0) v h]
  exact setRow_heap W b _ _ _ _ h
theorem cells_other {W : World} {b c : Nat} (hne : c ≠ b) (i : Nat) (v : Value) : (W.setCell ⟨b, i, none⟩ v).heap[c]? = W.heap[c]? := Below.heap_setCell W ⟨b, i, none⟩ v c hne

end Go.Proofs.Ytlpbelhfpoilpaa

