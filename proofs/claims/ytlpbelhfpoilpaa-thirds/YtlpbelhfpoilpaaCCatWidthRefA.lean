import Derived.Test.YtlpbelhfpoilpaaCBaseBase2Base3Base4
import Derived.Test.YtlpbelhfpoilpaaCCond
set_option linter.all false
namespace Go.Proofs.Ytlpbelhfpoilpaa
open Go.RowKit Go.Scout

set_option maxHeartbeats 2000000 in
theorem isCatalog_any (ao : Option Addr) (cap : Nat) (ts : List TableD) (w : World) (hx : TablesAt w ao ts) :
    Calls Try.prog 23 #[.slice ao ts.length cap] w fun e w' => e = .returned (.bool (catB ts)) ∧ Below w.heap.size w w' := by
  have hl := hx.1
  by_cases h0 : ts.length < 1
  · go_enter Try.func23, Try.ntmps23
    go_wp2
    go_ret
    exact ⟨ret_bool (catB_short h0), Below.refl _ _⟩
  by_cases h8 : 8 < ts.length
  · go_enter Try.func23, Try.ntmps23
    go_wp2
    go_ret
    exact ⟨ret_bool (catB_long h8), Below.refl _ _⟩
  go_enter Try.func23, Try.ntmps23
  go_wp2
  go_loopw [3] (fun i wr => ∃ k : Nat, k ≤ ts.length ∧ i = .int .i64 k ∧ Hid ((ts.take k).all tableB = true) ∧ Below w.heap.size w wr) (fun i _ => ts.length - (intOf i).toNat)
  case atStart => exact ⟨0, Nat.zero_le _, rfl, rfl, Below.refl _ _⟩
  case round =>
    obtain ⟨k, hk, rfl, HP, hb⟩ := hrel
    by_cases hlt : k < ts.length
    · obtain ⟨b, off, rfl, c0, c1, c2, c3, c4, c5⟩ := hx.2 k hlt
      have hbw : b < w.heap.size := lt_of_cell c0
      have e0 := (hb.cell (p := ⟨b, off + k * 6, none⟩) hbw).trans c0
      have e1 := (hb.cell (p := ⟨b, off + k * 6 + 1, none⟩) hbw).trans c1
      have e2 := (hb.cell (p := ⟨b, off + k * 6 + 2, none⟩) hbw).trans c2
      have e3 := (hb.cell (p := ⟨b, off + k * 6 + 3, none⟩) hbw).trans c3
      have e4 := (hb.cell (p := ⟨b, off + k * 6 + 4, none⟩) hbw).trans c4
      have e5 := (hb.cell (p := ⟨b, off + k * 6 + 5, none⟩) hbw).trans c5
      clear c0 c1 c2 c3 c4 c5 hx
      generalize ht : ts.getD k tz = t at *
      have HT : Hid (ts.getD k tz = t) := ht
      clear ht
      have hsz := hb.size
      by_cases h1 : t.cols < 1 ∨ 4 < t.cols ∨ t.rows < 0 ∨ 1000000 < t.rows
      · have HF : Hid (false = catB ts) := catB_bad hlt (by rw [HT.out]; exact tableB_bad h1)
        go_wp2
        all_goals
          go_ret
          exact ⟨ret_bool HF.out, hb.alloc hsz _⟩
      · have l1 : 1 ≤ t.cols := by omega
        have l2 : t.cols ≤ 4 := by omega
        have l3 : 0 ≤ t.rows := by omega
        have l4 : t.rows ≤ 1000000 := by omega
        clear h1
        go_wp2
        go_loop [5] (fun i => ∃ m : Nat, m ≤ t.cols.toNat ∧ i = .int .i64 m ∧ Hid (∀ j, j < m → 1 ≤ t.kd j ∧ t.kd j ≤ 1000000)) (fun i => t.cols.toNat - (intOf i).toNat)
        case atStart => exact ⟨0, Nat.zero_le _, rfl, fun j hj => absurd hj (by omega)⟩
        case round =>
          obtain ⟨m, hm, rfl, HM⟩ := hrel
          by_cases hml : m < t.cols.toNat
          · have hml' : (m : Int) < t.cols := by omega
            have hm4 : m < 4 := by omega
            have hkd := TableD.kd_cell wr t 60 m hm4
            by_cases hk1 : t.kd m < 1
            · have HF : Hid (false = catB ts) := catB_bad hlt (by rw [HT.out]; exact tableB_badk m hml (by omega))
              go_wp2
              go_ret
              exact ⟨ret_bool HF.out, hb.alloc hsz _⟩
            · by_cases hk2 : 1000000 < t.kd m
              · have HF : Hid (false = catB ts) := catB_bad hlt (by rw [HT.out]; exact tableB_badk m hml (by omega))
                go_wp2
                go_ret
                exact ⟨ret_bool HF.out, hb.alloc hsz _⟩
              · go_wp2
                go_round
                case rel =>
                  refine ⟨m + 1, by omega, by go_num, fun j hj => ?_⟩
                  by_cases hjm : j = m
                  · subst hjm; omega
                  · exact HM.out j (by omega)
                case measure => simp [intOf]; omega
          · have hml' : ¬ (m : Int) < t.cols := by omega
            have HG : Hid (tableB t = true) := tableB_good l1 l2 l3 l4 (fun j hj => HM.out j (by omega))
            go_wp2
            go_roundw
            case rel => exact ⟨k + 1, by omega, by go_num, all_step (z := tz) hlt HP.out (by rw [HT.out]; exact HG.out), hb.alloc hsz _⟩
            case measure => simp [intOf]; omega
    · go_wp2
      go_ret
      exact ⟨ret_bool (catB_good h0 h8 hk hlt HP.out), hb⟩

end Go.Proofs.Ytlpbelhfpoilpaa

namespace Go.Proofs.Ytlpbelhfpoilpaa
open Go.RowKit Go.Scout

set_option maxHeartbeats 2000000 in
theorem width_any (ao : Option Addr) (cap : Nat) (ts : List TableD) (q : QueryV) (w : World) (hx : TablesAt w ao ts) (hc : catB ts = true) (hq : q.src.At w) (h5 : q.src.xs.length ≤ 5) (ha : allB q.src.xs ts.length = true) :
    Calls Try.prog 25 #[.slice ao ts.length cap, .agg q.cells, .int .i64 q.src.xs.length] w fun e w' => e = .returned (.int .i64 (widthN ts q.src.xs)) ∧ Below w.heap.size w w' := by
  obtain ⟨⟨sad, scap, xs⟩, wad, wcap, wh, group, keys, sums, sel, ord⟩ := q
  unfold IntsV.At at hq
  simp only at h5 ha hq
  unfold QueryV.cells IntsV.val
  simp only
  have hl := hx.1
  have HC : Hid (catB ts = true) := hc
  have HA : Hid (allB xs ts.length = true) := ha
  clear hc ha
  go_enter Try.func25, Try.ntmps25
  go_wp2
  go_loop [7, 8] (fun n i => ∃ k : Nat, k ≤ xs.length ∧ i = .int .i64 k ∧ n = .int .i64 (widthN ts (xs.take k))) (fun _ i => xs.length - (intOf i).toNat)
  case atStart => exact ⟨0, Nat.zero_le _, rfl, rfl⟩
  case round =>
    obtain ⟨k, hk, rfl, rfl⟩ := hrel
    have hbd := widthN_bd HC.out HA.out k hk
    by_cases hlt : k < xs.length
    · obtain ⟨sb, soff, rfl, hs⟩ := hq.get hlt
      have hsk := cell_alloc (hs k hlt)
      have hr := allB_at HA.out hlt
      have hcol := cols_of HC.out (i := xs[k].toNat) (by omega)
      obtain ⟨b, off, rfl, c0, -⟩ := hx.2 xs[k].toNat (by omega)
      have hck := cell_alloc c0
      have HS : Hid (widthN ts (xs.take (k + 1)) = widthN ts (xs.take k) + (ts.getD xs[k].toNat tz).cols) := widthN_snoc ts xs k hlt
      generalize (ts.getD xs[k].toNat tz).cols = cc at *
      generalize widthN ts (xs.take k) = W0 at *
      clear hs c0 hx hq
      go_wp2
      go_round
      case rel => exact ⟨k + 1, by omega, by go_num, by rw [HS.out]⟩
      case measure => simp [intOf]; omega
    · go_wp2
      go_ret
      have : k = xs.length := by omega
      subst this
      exact ⟨ret_int (by rw [List.take_length]), (Below.refl _ _).alloc (Nat.le_refl _) _⟩

end Go.Proofs.Ytlpbelhfpoilpaa

namespace Go.Proofs.Ytlpbelhfpoilpaa
open Go.RowKit Go.Scout

set_option maxRecDepth 100000 in
set_option maxHeartbeats 2000000 in
theorem ref_nocat (ao : Option Addr) (cap : Nat) (ts : List TableD) (q : QueryV) (w : World) (hx : TablesAt w ao ts) (hc : catB ts = false) :
    Calls Try.prog 8 #[.slice ao ts.length cap, .agg q.cells] w fun e w' => e = .returned (.int .i64 (q.check ts)) ∧ Below w.heap.size w w' := by
  have HF : Hid ((1 : Int) = q.check ts) := QueryV.check_cat hc
  have hx1 := fun o => hx.below (below_alloc w o)
  generalize q.check ts = R at *
  generalize hq : q.cells = C at *
  have hC : C.size = 7 := by rw [← hq]; rfl
  unfold QueryV.cells IntsV.val at hq
  subst hq
  go_enter Try.func8, Try.ntmps8
  go_wp2_with (go_at_call 23; refine (isCatalog_any _ _ _ _ (hx1 _)).mono ?_; rw [hc]; rintro e w' ⟨rfl, hb⟩)
  go_ret
  exact ⟨ret_int HF.out, Below.step (below_alloc _ _) (by assumption)⟩

end Go.Proofs.Ytlpbelhfpoilpaa

