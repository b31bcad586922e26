import Derived.Test.YtlpbelhfpoilpaaCCatWidthRefA
set_option linter.all false
namespace Go.Proofs.Ytlpbelhfpoilpaa
open Go.RowKit Go.Scout

set_option maxRecDepth 100000 in
set_option maxHeartbeats 4000000 in
theorem ref_full2 (ao : Option Addr) (cap : Nat) (ts : List TableD) (q : QueryV) (w : World) (hx : TablesAt w ao ts) (hq : q.At w) (hc : catB ts = true)
    (hf : ¬ (5 < q.src.xs.length ∨ 8 < q.wh.length ∨ 8 < q.sel.xs.length ∨ 4 < q.keys.xs.length ∨ 4 < q.sums.xs.length ∨ 4 < q.ord.xs.length)) (hw : wideB q.wh q.wh.length = true) :
    Calls Try.prog 8 #[.slice ao ts.length cap, .agg q.cells] w fun e w' => e = .returned (.int .i64 (q.check ts)) ∧ Below w.heap.size w w' := by
  have HF : Hid ((2 : Int) = q.check ts) := QueryV.check_full hc (fullB_any (by rw [wideB_all]; exact hw))
  have hx1 := fun o => hx.below (below_alloc w o)
  have hwl := hq.wh
  generalize q.check ts = R at *
  clear hq
  obtain ⟨src, wad, wcap, wh, group, keys, sums, sel, ord⟩ := q
  simp only at hf hwl hw
  unfold QueryV.cells IntsV.val
  simp only
  have h1 : ¬ 5 < src.xs.length := by omega
  have h2 : ¬ 8 < wh.length := by omega
  have h3 : ¬ 8 < sel.xs.length := by omega
  have h4 : ¬ 4 < keys.xs.length := by omega
  have h5 : ¬ 4 < sums.xs.length := by omega
  have h6 : ¬ 4 < ord.xs.length := by omega
  have HW : Hid (wideB wh wh.length = true) := hw
  clear hf hw
  go_enter Try.func8, Try.ntmps8
  go_wp2_with (go_at_call 23; refine (isCatalog_any _ _ _ _ (hx1 _)).mono ?_; rw [hc]; rintro e w' ⟨rfl, hb⟩; have hcell := bcell hb; simp at hcell)
  go_loop [6, 7] (fun f i => ∃ k : Nat, k ≤ wh.length ∧ i = .int .i64 k ∧ f = .bool (wideB wh k)) (fun _ i => wh.length - (intOf i).toNat)
  case atStart => exact ⟨0, Nat.zero_le _, rfl, by simp [wideB]; omega⟩
  case round =>
    obtain ⟨k, hk, rfl, rfl⟩ := hrel
    by_cases hlt : k < wh.length
    · have hs := wideB_succ hlt
      obtain ⟨b, off, rfl, hcl⟩ := hwl.2.1.get hlt
      have hck := cell_below (Below.step (below_alloc _ _) hb) (hcl k hlt)
      unfold ClauseV.val at hck
      generalize (wh.getD k lz).ad = ad at *
      generalize (wh.getD k lz).cap = cp at *
      generalize (wh.getD k lz).cs.length = cl at *
      cases hb0 : wideB wh k
      · have HS : Hid (wideB wh (k + 1) = decide (3 < cl)) := show wideB wh (k + 1) = decide (3 < cl) by rw [hs, hb0, Bool.false_or]
        clear hs hb0 hcl hwl
        by_cases h3c : 3 < cl
        · go_wp2
          go_round
          case rel => exact ⟨k + 1, by omega, by go_num, val_boolI (by rw [HS.out]; simp; omega)⟩
          case measure => simp [intOf]; omega
        · go_wp2
          go_round
          case rel => exact ⟨k + 1, by omega, by go_num, val_boolI (by rw [HS.out]; simp; omega)⟩
          case measure => simp [intOf]; omega
      · have HS : Hid (wideB wh (k + 1) = true) := show wideB wh (k + 1) = true by rw [hs, hb0, Bool.true_or]
        clear hs hb0 hcl hwl
        go_wp2
        go_round
        case rel => exact ⟨k + 1, by omega, by go_num, by rw [HS.out]⟩
        case measure => simp [intOf]; omega
    · have hkk : k = wh.length := by omega
      subst hkk
      rw [HW.out]
      go_wp2
      go_ret
      exact ⟨ret_int HF.out, Below.step (below_alloc _ _) hb⟩

end Go.Proofs.Ytlpbelhfpoilpaa

