import Derived.Test.YtlpbelhfpoilpaaGreatCRLawBaseBase2Base3
import Derived.Test.YtlpbelhfpoilpaaGreatCEvXAllCondCat
set_option linter.all false
namespace Go.Proofs.YtlpbelhfpoilpaaGreat
open Go.RowKit Go.Scout

set_option maxHeartbeats 2000000 in
theorem width_any (ao : Option Addr) (cap : Nat) (ts : List TableD) (q : QueryV) (w : World) (hx : TablesAt w ao ts) (hc : catB ts = true) (hq : q.src.At w) (h5 : q.src.xs.length ≤ 5) (ha : allB q.src.xs ts.length = true) :
    Calls Tryz.prog 47 #[.slice ao ts.length cap, .agg q.cells, .int .i64 q.src.xs.length] w fun e w' => e = .returned (.int .i64 (widthN ts q.src.xs)) ∧ Below w.heap.size w w' := by
  obtain ⟨⟨sad, scap, xs⟩, wad, wcap, wh, group, keys, sums, sel, ord⟩ := q
  unfold IntsV.At at hq
  simp only at h5 ha hq
  unfold QueryV.cells IntsV.val
  simp only
  have hl := hx.1
  have HC : Hid (catB ts = true) := hc
  have HA : Hid (allB xs ts.length = true) := ha
  clear hc ha
  go_enter Tryz.func47, Tryz.ntmps47
  go_wp2
  go_loop [7, 8] (fun n i => ∃ k : Nat, k ≤ xs.length ∧ i = .int .i64 k ∧ n = .int .i64 (widthN ts (xs.take k))) (fun _ i => xs.length - (intOf i).toNat)
  case atStart => exact ⟨0, Nat.zero_le _, rfl, rfl⟩
  case round =>
    obtain ⟨k, hk, rfl, rfl⟩ := hrel
    have hbd := widthN_bd HC.out HA.out k hk
    by_cases hlt : k < xs.length
    · obtain ⟨sb, soff, rfl, hs⟩ := hq.get hlt
      have hsk := cell_alloc (hs k hlt)
      have hr := allB_at HA.out hlt
      have hcol := cols_of HC.out (i := xs[k].toNat) (by omega)
      obtain ⟨b, off, rfl, c0, -⟩ := hx.2 xs[k].toNat (by omega)
      have hck := cell_alloc c0
      have HS : Hid (widthN ts (xs.take (k + 1)) = widthN ts (xs.take k) + (ts.getD xs[k].toNat tz).cols) := widthN_snoc ts xs k hlt
      generalize (ts.getD xs[k].toNat tz).cols = cc at *
      generalize widthN ts (xs.take k) = W0 at *
      clear hs c0 hx hq
      go_wp2
      go_round
      case rel => exact ⟨k + 1, by omega, by go_num, by rw [HS.out]⟩
      case measure => simp [intOf]; omega
    · go_wp2
      go_ret
      have : k = xs.length := by omega
      subst this
      exact ⟨ret_int (by rw [List.take_length]), (Below.refl _ _).alloc (Nat.le_refl _) _⟩

end Go.Proofs.YtlpbelhfpoilpaaGreat

namespace Go.Proofs.YtlpbelhfpoilpaaGreat
open Go.RowKit Go.Scout

set_option maxRecDepth 100000 in
set_option maxHeartbeats 2000000 in
theorem ref_nocat (ao : Option Addr) (cap : Nat) (ts : List TableD) (q : QueryV) (w : World) (hx : TablesAt w ao ts) (hc : catB ts = false) :
    Calls Tryz.prog 20 #[.slice ao ts.length cap, .agg q.cells] w fun e w' => e = .returned (.int .i64 (q.check ts)) ∧ Below w.heap.size w w' := by
  have HF : Hid ((1 : Int) = q.check ts) := QueryV.check_cat hc
  have hx1 := fun o => hx.below (below_alloc w o)
  generalize q.check ts = R at *
  generalize hq : q.cells = C at *
  have hC : C.size = 7 := by rw [← hq]; rfl
  unfold QueryV.cells IntsV.val at hq
  subst hq
  go_enter Tryz.func20, Tryz.ntmps20
  go_wp2_with (go_at_call 45; refine (isCatalog_any _ _ _ _ (hx1 _)).mono ?_; rw [hc]; rintro e w' ⟨rfl, hb⟩)
  go_ret
  exact ⟨ret_int HF.out, Below.step (below_alloc _ _) (by assumption)⟩

end Go.Proofs.YtlpbelhfpoilpaaGreat

namespace Go.Proofs.YtlpbelhfpoilpaaGreat
open Go.RowKit Go.Scout

set_option maxRecDepth 100000 in
set_option maxHeartbeats 4000000 in
theorem ref_full1 (ao : Option Addr) (cap : Nat) (ts : List TableD) (q : QueryV) (w : World) (hx : TablesAt w ao ts) (hq : q.At w) (hc : catB ts = true)
    (hf : 5 < q.src.xs.length ∨ 8 < q.wh.length ∨ 8 < q.sel.xs.length ∨ 4 < q.keys.xs.length ∨ 4 < q.sums.xs.length ∨ 4 < q.ord.xs.length) :
    Calls Tryz.prog 20 #[.slice ao ts.length cap, .agg q.cells] w fun e w' => e = .returned (.int .i64 (q.check ts)) ∧ Below w.heap.size w w' := by
  have HF : Hid ((2 : Int) = q.check ts) := QueryV.check_full hc (fullB_of (by simpa [QueryV.whs] using hf))
  have hx1 := fun o => hx.below (below_alloc w o)
  have hwl := hq.wh.1
  generalize q.check ts = R at *
  clear hq
  obtain ⟨src, wad, wcap, wh, group, keys, sums, sel, ord⟩ := q
  simp only at hf hwl
  unfold QueryV.cells IntsV.val
  simp only
  have hcase : (5 < src.xs.length) ∨ (¬ 5 < src.xs.length ∧ 8 < wh.length) ∨ (¬ 5 < src.xs.length ∧ ¬ 8 < wh.length ∧ 8 < sel.xs.length) ∨ (¬ 5 < src.xs.length ∧ ¬ 8 < wh.length ∧ ¬ 8 < sel.xs.length ∧ 4 < keys.xs.length) ∨
      (¬ 5 < src.xs.length ∧ ¬ 8 < wh.length ∧ ¬ 8 < sel.xs.length ∧ ¬ 4 < keys.xs.length ∧ 4 < sums.xs.length) ∨ (¬ 5 < src.xs.length ∧ ¬ 8 < wh.length ∧ ¬ 8 < sel.xs.length ∧ ¬ 4 < keys.xs.length ∧ ¬ 4 < sums.xs.length ∧ 4 < ord.xs.length) := by omega
  clear hf
  rcases hcase with h1 | ⟨h1, h2⟩ | ⟨h1, h2, h3⟩ | ⟨h1, h2, h3, h4⟩ | ⟨h1, h2, h3, h4, h5⟩ | ⟨h1, h2, h3, h4, h5, h6⟩
  all_goals
    go_enter Tryz.func20, Tryz.ntmps20
    go_wp2_with (go_at_call 45; refine (isCatalog_any _ _ _ _ (hx1 _)).mono ?_; rw [hc]; rintro e w' ⟨rfl, hb⟩; have hcell := bcell hb; simp at hcell)
    go_loop [6, 7] (fun f i => ∃ k : Nat, k ≤ wh.length ∧ i = .int .i64 k ∧ f = .bool true) (fun _ i => wh.length - (intOf i).toNat)
    case atStart => exact ⟨0, Nat.zero_le _, rfl, by first | rfl | exact val_boolI (by simp; omega)⟩
    case round =>
      obtain ⟨k, hk, rfl, rfl⟩ := hrel
      by_cases hlt : k < wh.length
      · go_wp2
        go_round
        case rel => exact ⟨k + 1, by omega, by go_num, rfl⟩
        case measure => simp [intOf]; omega
      · go_wp2
        go_ret
        exact ⟨ret_int HF.out, Below.step (below_alloc _ _) hb⟩

end Go.Proofs.YtlpbelhfpoilpaaGreat

namespace Go.Proofs.YtlpbelhfpoilpaaGreat
open Go.RowKit Go.Scout

set_option maxRecDepth 100000 in
set_option maxHeartbeats 4000000 in
theorem ref_full2 (ao : Option Addr) (cap : Nat) (ts : List TableD) (q : QueryV) (w : World) (hx : TablesAt w ao ts) (hq : q.At w) (hc : catB ts = true)
    (hf : ¬ (5 < q.src.xs.length ∨ 8 < q.wh.length ∨ 8 < q.sel.xs.length ∨ 4 < q.keys.xs.length ∨ 4 < q.sums.xs.length ∨ 4 < q.ord.xs.length)) (hw : wideB q.wh q.wh.length = true) :
    Calls Tryz.prog 20 #[.slice ao ts.length cap, .agg q.cells] w fun e w' => e = .returned (.int .i64 (q.check ts)) ∧ Below w.heap.size w w' := by
  have HF : Hid ((2 : Int) = q.check ts) := QueryV.check_full hc (fullB_any (by rw [wideB_all]; exact hw))
  have hx1 := fun o => hx.below (below_alloc w o)
  have hwl := hq.wh
  generalize q.check ts = R at *
  clear hq
  obtain ⟨src, wad, wcap, wh, group, keys, sums, sel, ord⟩ := q
  simp only at hf hwl hw
  unfold QueryV.cells IntsV.val
  simp only
  have h1 : ¬ 5 < src.xs.length := by omega
  have h2 : ¬ 8 < wh.length := by omega
  have h3 : ¬ 8 < sel.xs.length := by omega
  have h4 : ¬ 4 < keys.xs.length := by omega
  have h5 : ¬ 4 < sums.xs.length := by omega
  have h6 : ¬ 4 < ord.xs.length := by omega
  have HW : Hid (wideB wh wh.length = true) := hw
  clear hf hw
  go_enter Tryz.func20, Tryz.ntmps20
  go_wp2_with (go_at_call 45; refine (isCatalog_any _ _ _ _ (hx1 _)).mono ?_; rw [hc]; rintro e w' ⟨rfl, hb⟩; have hcell := bcell hb; simp at hcell)
  go_loop [6, 7] (fun f i => ∃ k : Nat, k ≤ wh.length ∧ i = .int .i64 k ∧ f = .bool (wideB wh k)) (fun _ i => wh.length - (intOf i).toNat)
  case atStart => exact ⟨0, Nat.zero_le _, rfl, by simp [wideB]; omega⟩
  case round =>
    obtain ⟨k, hk, rfl, rfl⟩ := hrel
    by_cases hlt : k < wh.length
    · have hs := wideB_succ hlt
      obtain ⟨b, off, rfl, hcl⟩ := hwl.2.1.get hlt
      have hck := cell_below (Below.step (below_alloc _ _) hb) (hcl k hlt)
      unfold ClauseV.val at hck
      generalize (wh.getD k lz).ad = ad at *
      generalize (wh.getD k lz).cap = cp at *
      generalize (wh.getD k lz).cs.length = cl at *
      cases hb0 : wideB wh k
      · have HS : Hid (wideB wh (k + 1) = decide (3 < cl)) := show wideB wh (k + 1) = decide (3 < cl) by rw [hs, hb0, Bool.false_or]
        clear hs hb0 hcl hwl
        by_cases h3c : 3 < cl
        · go_wp2
          go_round
          case rel => exact ⟨k + 1, by omega, by go_num, val_boolI (by rw [HS.out]; simp; omega)⟩
          case measure => simp [intOf]; omega
        · go_wp2
          go_round
          case rel => exact ⟨k + 1, by omega, by go_num, val_boolI (by rw [HS.out]; simp; omega)⟩
          case measure => simp [intOf]; omega
      · have HS : Hid (wideB wh (k + 1) = true) := show wideB wh (k + 1) = true by rw [hs, hb0, Bool.true_or]
        clear hs hb0 hcl hwl
        go_wp2
        go_round
        case rel => exact ⟨k + 1, by omega, by go_num, by rw [HS.out]⟩
        case measure => simp [intOf]; omega
    · have hkk : k = wh.length := by omega
      subst hkk
      rw [HW.out]
      go_wp2
      go_ret
      exact ⟨ret_int HF.out, Below.step (below_alloc _ _) hb⟩

end Go.Proofs.YtlpbelhfpoilpaaGreat

