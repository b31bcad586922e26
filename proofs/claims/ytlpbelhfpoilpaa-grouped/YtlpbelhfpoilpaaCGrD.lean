import Derived.Test.YtlpbelhfpoilpaaCGrC
set_option linter.all false
namespace Go.Scout
open Go.RowKit

theorem getD_in {α : Type} {l : List α} {d : α} {k : Nat} (hk : k < l.length) : l.getD k d ∈ l := by
  have e : l.getD k d = l[k] := by simp [List.getD, hk]
  rw [e]
  exact List.getElem_mem hk
def bigB (x : Int) : Prop := -2305843009213693952 ≤ x ∧ x ≤ 2305843009213693952
def addsN (ss row cols : List Int) : List Int := List.zipWith (fun s c => addV s (row.getD c.toNat 0)) ss cols
def addsK (ss row cols : List Int) (k : Nat) : List Int := (addsN ss row cols).take k ++ ss.drop k

theorem addsN_len {ss row cols : List Int} (h : ss.length = cols.length) : (addsN ss row cols).length = cols.length := by simp [addsN, h]
theorem addsK_zero {ss row cols : List Int} : addsK ss row cols 0 = ss := by simp [addsK]
theorem addsK_all {ss row cols : List Int} (h : ss.length = cols.length) : addsK ss row cols cols.length = addsN ss row cols := by
  unfold addsK
  rw [List.take_of_length_le (by rw [addsN_len h]; exact Nat.le_refl _), List.drop_of_length_le (by omega), List.append_nil]
theorem addsK_len {ss row cols : List Int} (h : ss.length = cols.length) {k : Nat} (hk : k ≤ cols.length) : (addsK ss row cols k).length = cols.length := by
  unfold addsK
  rw [List.length_append, List.length_take, List.length_drop, addsN_len h]
  omega
theorem addsK_get {ss row cols : List Int} (h : ss.length = cols.length) {k : Nat} (hk : k < cols.length) : (addsK ss row cols k)[k]? = some (ss.getD k 0) := by
  unfold addsK
  rw [List.getElem?_append_right (by rw [List.length_take, addsN_len h]; omega), List.length_take, addsN_len h, Nat.min_eq_left (by omega), Nat.sub_self, List.getElem?_drop]
  simp [List.getD, show k < ss.length by omega]
theorem addsK_set {ss row cols : List Int} (h : ss.length = cols.length) {k : Nat} (hk : k < cols.length) : (addsK ss row cols k).set k (addV (ss.getD k 0) (row.getD (cols.getD k 0).toNat 0)) = addsK ss row cols (k + 1) := by
  unfold addsK
  have hl : ((addsN ss row cols).take k).length = k := by rw [List.length_take, addsN_len h]; omega
  rw [List.set_append_right _ _ (by omega), hl, Nat.sub_self, List.drop_eq_getElem_cons (by omega), List.set_cons_zero, List.take_succ_eq_append_getElem (by rw [addsN_len h]; omega), List.append_assoc]
  congr 2
  simp [addsN, List.getD, hk, show k < ss.length by omega]

end Go.Scout
namespace Go.Proofs.Ytlpbelhfpoilpaa
open Go.RowKit Go.Scout

set_option maxRecDepth 20000 in
set_option maxHeartbeats 8000000 in
theorem groupAdd_any (gb sb : Nat) (kv : Value) (cnt : Nat) (ss : List Int) (x c : IntsV) (w : World) (hgs : gb ≠ sb)
    (hg : w.heap[gb]? = some (.cells #[kv, .int .i64 cnt, .slice (some ⟨sb, 0, none⟩) c.xs.length c.xs.length] 137)) (hs : w.heap[sb]? = some (.cells (ss.map (Value.int .i64)).toArray 3)) (hl : ss.length = c.xs.length) (hcl : c.xs.length ≤ 4)
    (hx : x.At w) (hc : c.At w) (hxb : ∀ a, x.ad = some a → a.block ≠ gb ∧ a.block ≠ sb) (hcb : 0 < c.xs.length → ∀ a, c.ad = some a → a.block ≠ gb ∧ a.block ≠ sb) (ha : allB c.xs x.xs.length = true)
    (hcnt : cnt ≤ 1000000) (hbs : ∀ s ∈ ss, bigB s) (hbx : ∀ v ∈ x.xs, bigB v) :
    Calls Try.prog 105 #[.pointer (some ⟨gb, 0, none⟩), x.val, c.val] w fun e w' => (∃ v, e = .returned v) ∧
      w'.heap[gb]? = some (.cells #[kv, .int .i64 (cnt + 1 : Nat), .slice (some ⟨sb, 0, none⟩) c.xs.length c.xs.length] 137) ∧ w'.heap[sb]? = some (.cells ((addsN ss x.xs c.xs).map (Value.int .i64)).toArray 3) ∧
      Kept (fun b => b ≠ gb ∧ b ≠ sb) w w' ∧ w'.heap.size = w.heap.size := by
  obtain ⟨xad, xcap, xs⟩ := x
  obtain ⟨cad, ccap, cs⟩ := c
  unfold IntsV.val
  simp only at *
  have c1 : w.cell? ⟨gb, 1, none⟩ = some (.int .i64 cnt) := cells_cell hg rfl
  have f1 : w.frozen? ⟨gb, 1, none⟩ = false := cells_thaw hg 1
  have hw1 : wrap64 ((cnt : Int) + 1) = ((cnt + 1 : Nat) : Int) := by unfold wrap64; omega
  have HG : Hid _ := hg
  have HS : Hid _ := hs
  have HX : Hid _ := hx
  have HC : Hid _ := hc
  have HXB : Hid _ := hxb
  have HCB : Hid _ := hcb
  have HA : Hid _ := ha
  have HL : Hid _ := hl
  have HGS : Hid _ := hgs
  have HBS : Hid _ := hbs
  have HBX : Hid _ := hbx
  clear hg hs hx hc hxb hcb ha hl hgs hbs hbx
  go_enter Try.func105, Try.ntmps105
  go_wp2
  go_loopw [17] (fun i wr => ∃ k : Nat, k ≤ cs.length ∧ i = .int .i64 k ∧ wr.heap[gb]? = some (.cells #[kv, .int .i64 (cnt + 1 : Nat), .slice (some ⟨sb, 0, none⟩) cs.length cs.length] 137) ∧ wr.heap[sb]? = some (.cells ((addsK ss xs cs k).map (Value.int .i64)).toArray 3) ∧
    Kept (fun b => b ≠ gb ∧ b ≠ sb) w wr ∧ wr.heap.size = w.heap.size) (fun i _ => cs.length - (intOf i).toNat)
  case atStart =>
    refine ⟨0, Nat.zero_le _, rfl, ?_, ?_, Kept.setCell _ _ _ (fun h => h.1 rfl), by simp [World.setCell]⟩
    · have := cells_set HG.out 1 (.int .i64 (wrap64 ((cnt : Int) + 1)))
      rw [hw1] at this
      first | exact this | (rw [hw1]; exact this)
    · rw [cells_other (fun e => HGS.out e.symm), addsK_zero]
      exact HS.out
  case round =>
    obtain ⟨k, hk, rfl, hgk, hsk, hkk, hzk⟩ := hrel
    by_cases hlt : k < cs.length
    · obtain ⟨cb, coff, rfl, hcc⟩ := HC.out.get hlt
      have hck := cell_keep (hcc k hlt) hkk (HCB.out (by omega) ⟨cb, coff, none⟩ rfl)
      have hbd := allB_at HA.out hlt
      have hcv : cs.getD k 0 = cs[k] := by simp [List.getD, hlt]
      have hkn : cs[k].toNat < xs.length := by omega
      obtain ⟨xb, xoff, rfl, hxc⟩ := HX.out.get hkn
      have hxk := cell_keep (hxc _ hkn) hkk (HXB.out ⟨xb, xoff, none⟩ rfl)
      have c2 : wr.cell? ⟨gb, 2, none⟩ = some (.slice (some ⟨sb, 0, none⟩) cs.length cs.length) := cells_cell hgk rfl
      have c3 : wr.cell? ⟨sb, k, none⟩ = some (.int .i64 (ss.getD k 0)) := cells_cell hsk (by rw [List.getElem?_toArray, List.getElem?_map, addsK_get HL.out hlt]; rfl)
      have f3 : wr.frozen? ⟨sb, k, none⟩ = false := cells_thaw hsk k
      have hset := addsK_set (row := xs) HL.out hlt
      rw [hcv] at hset hck
      have hb1 : bigB (ss.getD k 0) := HBS.out _ (getD_in (by have := HL.out; omega))
      have hb2 : bigB (xs.getD cs[k].toNat 0) := HBX.out _ (getD_in hkn)
      have hcn : ((cs[k].toNat : Nat) : Int) = cs[k] := by omega
      have HGK : Hid _ := hgk
      have HSK : Hid _ := hsk
      have HKK : Hid _ := hkk
      have HZK : Hid _ := hzk
      have HSET : Hid _ := hset
      clear hgk hsk hkk hzk hset hcc hxc hcv
      generalize ss.getD k 0 = sv at *
      generalize xs.getD cs[k].toNat 0 = xv at *
      generalize hck0 : cs[k] = ck at *
      clear hck0
      obtain ⟨cn, rfl⟩ : ∃ cn : Nat, ck = (cn : Int) := ⟨ck.toNat, by omega⟩
      simp only [Int.toNat_natCast] at hkn hxk
      clear hcn c1 f1
      obtain ⟨wf, hwf⟩ : ∃ wf, (wr.setCell ⟨sb, k, none⟩ (.int .i64 (addV sv xv))).drew = wf := ⟨_, rfl⟩
      have hkf : Kept (fun b => b ≠ sb) wr wf := by
        rw [← hwf]
        exact (Kept.setCell wr ⟨sb, k, none⟩ _ (fun h => h rfl)).trans ⟨rfl, rfl, rfl, Nat.le_refl _, fun _ _ _ => rfl⟩
      have HF1 : Hid (wf.heap[gb]? = some (.cells #[kv, .int .i64 (cnt + 1 : Nat), .slice (some ⟨sb, 0, none⟩) cs.length cs.length] 137)) := (hkf.block gb (Array.getElem?_eq_some_iff.1 HGK.out).1 HGS.out).trans HGK.out
      have HF2 : Hid (wf.heap[sb]? = some (.cells ((addsK ss xs cs (k + 1)).map (Value.int .i64)).toArray 3)) := by
        have h := cells_set HSK.out k (.int .i64 (addV sv xv))
        rw [List.setIfInBounds_toArray, ← List.map_set, HSET.out] at h
        rw [← hwf]
        exact h
      have HF3 : Hid (Kept (fun b => b ≠ gb ∧ b ≠ sb) w wf) := HKK.out.trans (hkf.mono fun _ _ h => h.2)
      have HF4 : Hid (wf.heap.size = w.heap.size) := by
        have h : wf.heap.size = wr.heap.size := by rw [← hwf]; show (wr.setCell _ _).heap.size = _; simp [World.setCell]
        exact h.trans HZK.out
      have HWF : Hid _ := hwf
      clear hkf hwf HGK HSK HKK HZK HSET HG HS HA HL HGS HBS HBX HX HC HXB HCB hw1 hcnt
      go_wp2
      go_region_with (refine (addValue_any sv xv _ hb1 hb2).mono ?_; rintro e w4 ⟨rfl, rfl⟩)
      all_goals
        rw [HWF.out]
        go_wp2
        go_roundw
        case rel => exact ⟨k + 1, by omega, by go_num, HF1.out, HF2.out, HF3.out, HF4.out⟩
        case measure => simp [intOf]; omega
    · have hkk' : k = cs.length := by omega
      subst hkk'
      rw [addsK_all HL.out] at hsk
      have HE1 : Hid _ := hgk
      have HE2 : Hid _ := hsk
      have HE3 : Hid _ := hkk
      have HE4 : Hid _ := hzk
      clear hgk hsk hkk hzk
      go_wp2
      (try simp only [Exit.inBlock, Exit.then])
      refine bodyPost_end (results_none rfl _ _ _) rfl ?_
      exact ⟨⟨_, rfl⟩, HE1.out, HE2.out, HE3.out, HE4.out⟩

end Go.Proofs.Ytlpbelhfpoilpaa

