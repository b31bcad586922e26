import Derived.Test.YtpkihnafdaedoaaProg
import Derived.Test.YtpkihnafdaedoaaBase4
namespace Go.Proofs.Ytpkihnafdaedoaa
open Go.RowKit Go.Scout

theorem sliceAt4 (a : Addr) (x : World) (c : Int) (h0 : 0 ≤ c) (h4 : c ≤ 4) :
    (Instr.sliceAt 58 (.pointer (some a)) none (some (.int .i64 c)) none).run Try.prog x = .ok (.slice (some a) c.toNat 4) x := by
  have hal : Try.prog.arrayLen 58 = 4 := by kernel_rfl
  have hel : Try.prog.elem 58 = 3 := by kernel_rfl
  rw [run_sliceAt_array_h x 58 a (by rw [hal, hel]; exact Try.underlying58) .i64 c h0 (by rw [hal]; omega), hal, hel]
  simp [slicedAt, Addr.add]

set_option maxRecDepth 20000 in
set_option maxHeartbeats 2000000 in
theorem isTable_any (t : TableD) (w : World) :
    Calls Try.prog 59 #[.agg t.vals] w fun e w' => e = .returned (.bool (tableB t)) ∧ Below w.heap.size w w' := by
  have HBAD := @tableB_bad t
  have HBK := @tableB_badk t
  have HG := @tableB_good t
  have hkd := fun m hm => TableD.kd_cell w t 60 m hm
  generalize tableB t = B at *
  unfold TableD.vals
  by_cases h1 : t.cols < 1 ∨ 4 < t.cols ∨ t.rows < 0 ∨ 1000000 < t.rows
  · have HF : Hid (false = B) := (HBAD h1).symm
    clear HBAD HBK HG hkd
    go_enter Try.func59, Try.ntmps59
    go_wp2
    all_goals
      go_ret
      exact ⟨ret_bool HF.out, below_alloc _ _⟩
  · have l1 : 1 ≤ t.cols := by omega
    have l2 : t.cols ≤ 4 := by omega
    have l3 : 0 ≤ t.rows := by omega
    have l4 : t.rows ≤ 1000000 := by omega
    have HBK' : Hid _ := HBK
    have HG' : Hid _ := HG
    have HK : Hid _ := hkd
    clear HBAD HBK HG h1 hkd
    have hsl := fun (a : Addr) (x : World) => sliceAt4 a x t.cols (by omega) (by omega)
    go_enter Try.func59, Try.ntmps59
    go_wp2
    go_loop [28] (fun i => ∃ m : Nat, m ≤ t.cols.toNat ∧ i = .int .i64 m ∧ Hid (∀ j, j < m → 1 ≤ t.kd j ∧ t.kd j ≤ 1000000)) (fun i => t.cols.toNat - (intOf i).toNat)
    case atStart => exact ⟨0, Nat.zero_le _, rfl, fun j hj => absurd hj (by omega)⟩
    case round =>
      obtain ⟨m, hm, rfl, HM⟩ := hrel
      by_cases hml : m < t.cols.toNat
      · have hml' : (m : Int) < t.cols := by omega
        have hkm := HK.out m (by omega)
        by_cases hk1 : t.kd m < 1
        · have HF : Hid (false = B) := (HBK'.out m hml (by omega)).symm
          go_wp2
          go_ret
          exact ⟨ret_bool HF.out, below_alloc _ _⟩
        · by_cases hk2 : 1000000 < t.kd m
          · have HF : Hid (false = B) := (HBK'.out m hml (by omega)).symm
            go_wp2
            go_ret
            exact ⟨ret_bool HF.out, below_alloc _ _⟩
          · go_wp2
            go_round
            case rel =>
              refine ⟨m + 1, by omega, by go_num, fun j hj => ?_⟩
              by_cases hjm : j = m
              · subst hjm; omega
              · exact HM.out j (by omega)
            case measure => simp [intOf]; omega
      · have hml' : ¬ (m : Int) < t.cols := by omega
        have HF : Hid (true = B) := (HG'.out l1 l2 l3 l4 (fun j hj => HM.out j (by omega))).symm
        go_wp2
        go_ret
        exact ⟨ret_bool HF.out, below_alloc _ _⟩

theorem isCat1_any (t : TableD) (w : World) :
    Calls Try.prog 58 #[.agg t.vals] w fun e w' => e = .returned (.bool (!tableB t)) ∧ Below w.heap.size w w' := by
  have hC := fun x => isTable_any t x
  generalize tableB t = B at *
  unfold TableD.vals at *
  go_enter Try.func58, Try.ntmps58
  go_wp2_with (go_at_call 59; refine (hC _).mono ?_; rintro e w' ⟨rfl, hb⟩)
  go_ret
  exact ⟨ret_bool rfl, Below.step (below_alloc _ _) hb⟩

end Go.Proofs.Ytpkihnafdaedoaa
