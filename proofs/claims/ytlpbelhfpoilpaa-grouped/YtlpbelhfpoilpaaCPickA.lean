import Derived.Deep.OwnRows
import Derived.Test.YtlpbelhfpoilpaaCBase5LendBase6Base7
import Derived.Test.YtlpbelhfpoilpaaCItE
set_option linter.all false
namespace Go.Scout
open Go.RowKit

/-- A row that is a block's alone, with what is behind it. -/
def ownEl (e : TypeId) : El IntsV (List Int) where
  enc := IntsV.val
  At x W := rowEl.At x W ∧ W.ownsRow 0 e 1 x.val x.xs.length (x.xs.map (Value.int .i64))
  blk := rowEl.blk
  key := IntsV.xs
  keep := by
    rintro x A B ⟨h, ho⟩ hs hb
    refine ⟨rowEl.keep h hs hb, ho.1, ?_⟩
    rcases ho.2 with h | ⟨g, cap, cur, hv, hb', hg, h1, h2, h3, h4⟩
    · exact .inl h
    · refine .inr ⟨g, cap, cur, hv, hb', (hb g (Array.getElem?_eq_some_iff.1 hg).1 ?_).trans hg, h1, h2, h3, h4⟩
      have : x.ad = some ⟨g, 0, none⟩ := by
        have h := hv
        unfold IntsV.val at h
        injection h
      show Option.map _ x.ad = _
      rw [this]
      rfl
  inn := fun h hb => rowEl.inn h.1 hb

def pickN (xs cols : List Int) : List Int := cols.map fun c => xs.getD c.toNat 0
def pickArr (vals : List Int) (k : Nat) : Array Value := ((vals.take k).map (Value.int .i64) ++ List.replicate (vals.length - k) (Value.int .i64 0)).toArray

theorem pickArr_set (vals : List Int) {k : Nat} (hk : k < vals.length) : (pickArr vals k).setIfInBounds k (.int .i64 (vals.getD k 0)) = pickArr vals (k + 1) := by
  unfold pickArr
  rw [List.setIfInBounds_toArray]
  congr 1
  have h1 : ((vals.take k).map (Value.int .i64)).length = k := by simp; omega
  have h2 : vals.length - k = (vals.length - (k + 1)) + 1 := by omega
  rw [List.set_append_right _ _ (by omega), h1, Nat.sub_self, h2, List.replicate_succ, List.set_cons_zero, ← take_snoc vals 0 hk]
  simp

theorem pickArr_all (vals : List Int) : pickArr vals vals.length = (vals.map (Value.int .i64)).toArray := by simp [pickArr]
theorem pickArr_none (vals : List Int) : madeCells #[.int .i64 0] vals.length = pickArr vals 0 := by
  rw [madeCells_one]
  simp [pickArr]

theorem own_of_alloc (w : World) (vals : List Int) (e : TypeId) (hl : vals.length ≤ 1000000) :
    (ownEl e).At ⟨some ⟨w.heap.size, 0, none⟩, vals.length, vals⟩ (w.alloc (.cells (vals.map (Value.int .i64)).toArray e)) := by
  have ho : (w.alloc (.cells (vals.map (Value.int .i64)).toArray e)).ownsRow 0 e 1 (.slice (some ⟨w.heap.size, 0, none⟩) vals.length vals.length) vals.length (vals.map (Value.int .i64)) := by
    refine ⟨by simp, .inr ⟨w.heap.size, _, _, rfl, Nat.zero_le _, heap_alloc_new w _, Nat.le_refl _, by unfold maxLen; omega, by simp, by rw [List.take_of_length_le (by simp)]⟩⟩
  refine ⟨⟨⟨by show vals.length ≤ _; omega, fun i hi => ⟨w.heap.size, 0, rfl, ?_⟩⟩, fun a ha => by cases ha; simp, fun e => by cases e⟩, ho⟩
  have hi' : i < vals.length := hi
  simp [hi', List.getD]

end Go.Scout
namespace Go.Proofs.Ytlpbelhfpoilpaa
open Go.RowKit Go.Scout

set_option maxRecDepth 20000 in
set_option maxHeartbeats 4000000 in
theorem pick_any (x c : IntsV) (w : World) (hx : x.At w) (hc : c.At w) (ha : allB c.xs x.xs.length = true) (hl : c.xs.length ≤ 1000) :
    Calls Try.prog 96 #[x.val, c.val] w fun e w' => e = .returned (.slice (some ⟨w.heap.size, 0, none⟩) c.xs.length c.xs.length) ∧ w' = w.alloc (.cells ((pickN x.xs c.xs).map (Value.int .i64)).toArray 3) := by
  obtain ⟨xad, xcap, xs⟩ := x
  obtain ⟨cad, ccap, cs⟩ := c
  unfold IntsV.val
  simp only at ha hl
  have hmk := run_make_row' (P := Try.prog) 23 3 (.int .i64 0) 8 Try.underlying23 Try.infoInt rfl .i64 .i64 cs.length (by omega) (by omega)
  have hvl : (pickN xs cs).length = cs.length := by simp [pickN]
  have hm0 := pickArr_none (pickN xs cs)
  rw [hvl] at hm0
  rw [hm0] at hmk
  have HX : Hid _ := hx
  have HC : Hid _ := hc
  have HA : Hid _ := ha
  have HV : Hid _ := hvl
  have hxl := hx.1
  simp only at hxl
  clear hx hc ha hm0
  generalize hvv : pickN xs cs = vals at *
  have HVV : Hid _ := hvv
  clear hvv
  have hvl' := HV.out
  clear hvl
  simp only
  go_enter Try.func96, Try.ntmps96
  go_wp2
  go_loopw [13] (fun i wr => ∃ k : Nat, k ≤ cs.length ∧ i = .int .i64 k ∧ w.alloc (.cells (pickArr vals k) 3) = wr) (fun i _ => cs.length - (intOf i).toNat)
  case atStart => exact ⟨0, Nat.zero_le _, rfl, rfl⟩
  case round =>
    obtain ⟨k, hk, rfl, rfl⟩ := hrel
    by_cases hlt : k < cs.length
    · obtain ⟨cb, coff, rfl, hcc⟩ := HC.out.get hlt
      have hck := cell_below (below_alloc w (.cells (pickArr vals k) 3)) (hcc k hlt)
      have hbd := allB_at HA.out hlt
      have hcv : cs.getD k 0 = cs[k] := by simp [List.getD, hlt]
      rw [hcv] at hck
      have hvk : vals.getD k 0 = xs.getD cs[k].toNat 0 := by
        rw [← HVV.out]
        simp [pickN, List.getD, hlt]
      have hkn : cs[k].toNat < xs.length := by omega
      obtain ⟨xb, xoff, rfl, hxc⟩ := HX.out.get hkn
      have hxk := cell_below (below_alloc w (.cells (pickArr vals k) 3)) (hxc _ hkn)
      rw [← hvk] at hxk
      have hst := setCell_alloc w (pickArr vals k) 3 k (.int .i64 (vals.getD k 0))
      rw [pickArr_set vals (by omega)] at hst
      have hcn : ((cs[k].toNat : Nat) : Int) = cs[k] := by omega
      have hcell : (w.alloc (.cells (pickArr vals k) 3)).cell? ⟨w.heap.size, k, none⟩ = some (.int .i64 0) := by
        have : (pickArr vals k)[k]? = some (.int .i64 0) := by
          have h1 : ((vals.take k).map (Value.int .i64)).length = k := by simp; omega
          unfold pickArr
          rw [List.getElem?_toArray, List.getElem?_append_right (by omega), h1, Nat.sub_self, List.getElem?_replicate, if_pos (by omega)]
        simp [this]
      generalize vals.getD k 0 = vk at *
      generalize hck0 : cs[k] = ck at *
      clear hcv hvk hxc hcc hck0
      obtain ⟨cn, rfl⟩ : ∃ cn : Nat, ck = (cn : Int) := ⟨ck.toNat, by omega⟩
      simp only [Int.toNat_natCast] at hkn hxk
      clear hcn
      go_wp2
      go_roundw
      case rel => exact ⟨k + 1, by omega, by go_num, by first | rfl | trivial | assumption⟩
      case measure => simp [intOf]; omega
    · have hkk : k = cs.length := by omega
      subst hkk
      have hpa : pickArr vals cs.length = (vals.map (Value.int .i64)).toArray := by rw [← hvl']; exact pickArr_all vals
      rw [hpa]
      go_wp2
      go_ret
      exact ⟨rfl, rfl⟩

end Go.Proofs.Ytlpbelhfpoilpaa

