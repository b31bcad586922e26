import Derived.Test.YtlpbelhfpoilpaaCCatWidthRefA
set_option linter.all false
namespace Go.Proofs.Ytlpbelhfpoilpaa
open Go.RowKit Go.Scout

set_option maxRecDepth 100000 in
set_option maxHeartbeats 4000000 in
theorem ref_full1 (ao : Option Addr) (cap : Nat) (ts : List TableD) (q : QueryV) (w : World) (hx : TablesAt w ao ts) (hq : q.At w) (hc : catB ts = true)
    (hf : 5 < q.src.xs.length ∨ 8 < q.wh.length ∨ 8 < q.sel.xs.length ∨ 4 < q.keys.xs.length ∨ 4 < q.sums.xs.length ∨ 4 < q.ord.xs.length) :
    Calls Try.prog 8 #[.slice ao ts.length cap, .agg q.cells] w fun e w' => e = .returned (.int .i64 (q.check ts)) ∧ Below w.heap.size w w' := by
  have HF : Hid ((2 : Int) = q.check ts) := QueryV.check_full hc (fullB_of (by simpa [QueryV.whs] using hf))
  have hx1 := fun o => hx.below (below_alloc w o)
  have hwl := hq.wh.1
  generalize q.check ts = R at *
  clear hq
  obtain ⟨src, wad, wcap, wh, group, keys, sums, sel, ord⟩ := q
  simp only at hf hwl
  unfold QueryV.cells IntsV.val
  simp only
  have hcase : (5 < src.xs.length) ∨ (¬ 5 < src.xs.length ∧ 8 < wh.length) ∨ (¬ 5 < src.xs.length ∧ ¬ 8 < wh.length ∧ 8 < sel.xs.length) ∨ (¬ 5 < src.xs.length ∧ ¬ 8 < wh.length ∧ ¬ 8 < sel.xs.length ∧ 4 < keys.xs.length) ∨
      (¬ 5 < src.xs.length ∧ ¬ 8 < wh.length ∧ ¬ 8 < sel.xs.length ∧ ¬ 4 < keys.xs.length ∧ 4 < sums.xs.length) ∨ (¬ 5 < src.xs.length ∧ ¬ 8 < wh.length ∧ ¬ 8 < sel.xs.length ∧ ¬ 4 < keys.xs.length ∧ ¬ 4 < sums.xs.length ∧ 4 < ord.xs.length) := by omega
  clear hf
  rcases hcase with h1 | ⟨h1, h2⟩ | ⟨h1, h2, h3⟩ | ⟨h1, h2, h3, h4⟩ | ⟨h1, h2, h3, h4, h5⟩ | ⟨h1, h2, h3, h4, h5, h6⟩
  all_goals
    go_enter Try.func8, Try.ntmps8
    go_wp2_with (go_at_call 23; refine (isCatalog_any _ _ _ _ (hx1 _)).mono ?_; rw [hc]; rintro e w' ⟨rfl, hb⟩; have hcell := bcell hb; simp at hcell)
    go_loop [6, 7] (fun f i => ∃ k : Nat, k ≤ wh.length ∧ i = .int .i64 k ∧ f = .bool true) (fun _ i => wh.length - (intOf i).toNat)
    case atStart => exact ⟨0, Nat.zero_le _, rfl, by first | rfl | exact val_boolI (by simp; omega)⟩
    case round =>
      obtain ⟨k, hk, rfl, rfl⟩ := hrel
      by_cases hlt : k < wh.length
      · go_wp2
        go_round
        case rel => exact ⟨k + 1, by omega, by go_num, rfl⟩
        case measure => simp [intOf]; omega
      · go_wp2
        go_ret
        exact ⟨ret_int HF.out, Below.step (below_alloc _ _) hb⟩

end Go.Proofs.Ytlpbelhfpoilpaa

