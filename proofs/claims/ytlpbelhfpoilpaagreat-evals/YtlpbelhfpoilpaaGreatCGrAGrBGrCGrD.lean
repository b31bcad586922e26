import Derived.Laws.CopyOwn
import Derived.Deep.RegionLaw
import Derived.RegionTactic
import Derived.RegionCalls
import Derived.Test.YtlpbelhfpoilpaaGreatCBase5PickAItFPure0
set_option linter.all false
namespace Go.Proofs.YtlpbelhfpoilpaaGreat
open Go.RowKit Go.Scout

set_option maxRecDepth 20000 in
set_option maxHeartbeats 4000000 in
theorem mul64_small (c : Nat) (w : World) (hc : c ≤ 4) :
    Calls Tryz.prog 117 #[.int .u64 1, .int .u64 c] w fun e w' => e = .returned (.tuple #[.int .u64 0, .int .u64 c]) ∧ w' = w := by
  obtain rfl | rfl | rfl | rfl | rfl : c = 0 ∨ c = 1 ∨ c = 2 ∨ c = 3 ∨ c = 4 := by omega
  all_goals
    go_enter Tryz.func117, Tryz.ntmps117
    go_wp2
    go_ret2
    exact ⟨rfl, rfl⟩

set_option maxRecDepth 20000 in
set_option maxHeartbeats 4000000 in
theorem mul_small (c : Nat) (w : World) (hc : c ≤ 4) :
    Calls Tryz.prog 114 #[.int .u64 1, .int .u64 c] w fun e w' => e = .returned (.tuple #[.int .u64 0, .int .u64 c]) ∧ w' = w := by
  have h := mul64_small c w hc
  go_enter Tryz.func114, Tryz.ntmps114
  go_wp2_with fail
  refine h.mono ?_
  rintro e w2 ⟨rfl, rfl⟩
  go_wp2
  go_ret2
  exact ⟨rfl, rfl⟩

end Go.Proofs.YtlpbelhfpoilpaaGreat

namespace Go.Scout
open Go.RowKit

def repArr (v : Int) (c k : Nat) : List Value := List.replicate k (Value.int .i64 v) ++ List.replicate (c - k) (Value.int .i64 0)

theorem repArr_len (v : Int) {c k : Nat} (h : k ≤ c) : (repArr v c k).length = c := by simp [repArr]; omega
theorem repArr_all (v : Int) (c : Nat) : repArr v c c = List.replicate c (Value.int .i64 v) := by simp [repArr]
theorem repArr_none (v : Int) (c : Nat) : madeCells #[.int .i64 0] c = (repArr v c 0).toArray := by
  rw [madeCells_one]
  simp [repArr]
theorem repArr_splice (v : Int) {c k m : Nat} (h : k + m ≤ c) : splice (repArr v c k) k (List.replicate m (Value.int .i64 v)) = repArr v c (k + m) := by
  unfold splice repArr
  rw [List.take_left' (by simp), List.length_replicate, List.drop_append, List.length_replicate, List.drop_eq_nil_of_le (by simp), List.nil_append, List.drop_replicate, ← List.append_assoc, List.replicate_append_replicate]
  congr 2
  omega
theorem repArr_cell (v : Int) {c k j : Nat} (hj : j < k) : (repArr v c k)[j]? = some (Value.int .i64 v) := by
  unfold repArr
  rw [List.getElem?_append_left (by simpa using hj), List.getElem?_replicate, if_pos hj]

end Go.Scout
namespace Go.Proofs.YtlpbelhfpoilpaaGreat
open Go.RowKit Go.Scout

theorem Tryz.sizeInt : (Tryz.prog.info? 3).map (·.size) = some 1 := by kernel_rfl

theorem rep_copy0 (w : World) (xb : Nat) (v : Int) (c : Nat) (hc : 0 < c) (hx : w.cell? ⟨xb, 0, none⟩ = some (.int .i64 v)) (ty : TypeId) :
    (Builtin.copy_ #[23, 23] ty #[.slice (some ⟨w.heap.size, 0, none⟩) c c, .slice (some ⟨xb, 0, none⟩) 1 1]).run Tryz.prog (w.alloc (.cells (repArr v c 0).toArray 3)) = .ok (goInt 1) (w.alloc (.cells (repArr v c 1).toArray 3)) := by
  rw [run_copy_wide (w.alloc (.cells (repArr v c 0).toArray 3)) 23 23 ty 3 1 w.heap.size c c (some ⟨xb, 0, none⟩) 1 1 (repArr v c 0).toArray 3 [.int .i64 v] Tryz.underlying23 Tryz.sizeInt (heap_alloc_new w _) hc rfl
    (fun _ => ⟨_, rfl, fun j u hj => by
      match j, hj with
      | 0, hj => cases hj; exact cell_below (below_alloc w _) hx⟩) (by simp [repArr]; omega) (fun u hu => by simp at hu; subst hu; rfl), setRow_alloc]
  have h : splice (repArr v c 0) 0 (List.replicate 1 (Value.int .i64 v)) = repArr v c (0 + 1) := repArr_splice v (by omega)
  unfold splice at h
  simp only [List.take_zero, List.nil_append, Nat.zero_add, List.length_replicate, List.replicate_one] at h
  exact congrArg (fun l => Result.ok (goInt 1) (w.alloc (.cells (List.toArray l) 3))) h

theorem rep_copy1 (W : World) (g : Nat) (v : Int) (c k m : Nat) (hg : W.heap[g]? = some (.cells (repArr v c k).toArray 3)) (hm : Nat.min k (c - k) = m) (hk : 0 < k) (hc : k < c) (ty : TypeId) :
    (Builtin.copy_ #[23, 23] ty #[.slice (some ⟨g, k, none⟩) (c - k) (c - k), .slice (some ⟨g, 0, none⟩) k c]).run Tryz.prog W = .ok (.int .i64 m) (W.setRow g (repArr v c (k + m)).toArray) := by
  have hm' : min k (c - k) = m := hm
  have hmk : m ≤ k ∧ k + m ≤ c := by omega
  rw [run_copy_row (P := Tryz.prog) W 23 23 ty 3 g k (c - k) (c - k) ⟨g, 0, none⟩ k c (repArr v c k).toArray 3 (List.replicate m (.int .i64 v)) Tryz.underlying23 Tryz.sizeInt hg (by rw [List.length_replicate, hm])
    (fun j u hj => by
      have hj' : j < m := by have := (List.getElem?_eq_some_iff.1 hj).1; simpa using this
      rw [List.getElem?_replicate, if_pos hj'] at hj
      cases hj
      have hcl := repArr_cell v (c := c) (k := k) (j := j) (by omega)
      rw [addr_add]
      simp [World.cell?, hg, hcl]) (by rw [List.length_replicate, List.size_toArray, repArr_len v (by omega)]; omega) (fun u hu => by obtain ⟨_, rfl⟩ := List.mem_replicate.1 hu; rfl)]
  have h : splice (repArr v c k) k (List.replicate m (Value.int .i64 v)) = repArr v c (k + m) := repArr_splice v hmk.2
  unfold splice at h
  rw [List.length_replicate] at h ⊢
  rw [← List.append_assoc] at h
  exact congrArg (fun l => Result.ok (goInt m) (W.setRow g (List.toArray l))) h

set_option maxRecDepth 20000 in
set_option maxHeartbeats 8000000 in
theorem repeat_any (xb : Nat) (v : Int) (c : Nat) (w : World) (hc : c ≤ 4) (hx : w.cell? ⟨xb, 0, none⟩ = some (.int .i64 v)) :
    Calls Tryz.prog 111 #[.slice (some ⟨xb, 0, none⟩) 1 1, .int .i64 c] w fun e w' => e = .returned (.slice (some ⟨w.heap.size, 0, none⟩) c c) ∧ w'.heap[w.heap.size]? = some (.cells (List.replicate c (Value.int .i64 v)).toArray 3) ∧ Below w.heap.size w w' ∧ w'.heap.size = w.heap.size + 1 := by
  have hmk := run_make_row' (P := Tryz.prog) 23 3 (.int .i64 0) 8 Tryz.underlying23 Tryz.infoInt rfl .i64 .i64 c (by omega) (by omega)
  rw [repArr_none v c] at hmk
  have hmul := mul_small c w hc
  obtain ⟨k0, hk0⟩ : ∃ k0, Nat.min 1 c = k0 := ⟨_, rfl⟩
  have hk1 : k0 ≤ c ∧ k0 ≤ 1 ∧ (k0 = 0 → c = 0) := by
    have h : min 1 c = k0 := hk0
    omega
  have hcp : ∀ ty, (Builtin.copy_ #[23, 23] ty #[.slice (some ⟨w.heap.size, 0, none⟩) c c, .slice (some ⟨xb, 0, none⟩) 1 1]).run Tryz.prog (w.alloc (.cells (repArr v c 0).toArray 3)) = .ok (goInt k0) (w.alloc (.cells (repArr v c k0).toArray 3)) := by
    intro ty
    have h : min 1 c = k0 := hk0
    by_cases h0 : c = 0
    · subst h0
      obtain rfl : k0 = 0 := by omega
      exact run_copy_none (P := Tryz.prog) _ 23 23 ty 3 _ _ 0 0 1 1 Tryz.underlying23 Tryz.sizeInt rfl
    · obtain rfl : k0 = 1 := by omega
      exact rep_copy0 w xb v c (by omega) hx ty
  have HK1 : Hid _ := hk1
  clear hk0 hk1 hx
  have hgi : ∀ n : Nat, goInt (n : Int) = .int .i64 n := fun _ => rfl
  rw [hgi] at hcp
  go_enter Tryz.func111, Tryz.ntmps111
  go_wp2_with fail
  refine hmul.mono ?_
  rintro e w2 ⟨rfl, rfl⟩
  clear hmul
  go_wp2
  go_loopw [8] (fun s wr => ∃ k : Nat, k ≤ c ∧ s = .int .i64 k ∧ (k = 0 → c = 0) ∧ wr.heap[w2.heap.size]? = some (.cells (repArr v c k).toArray 3) ∧ Below w2.heap.size w2 wr ∧ wr.heap.size = w2.heap.size + 1) (fun s _ => c - (intOf s).toNat)
  case atStart => exact ⟨k0, HK1.out.1, rfl, HK1.out.2.2, heap_alloc_new _ _, below_alloc _ _, by simp⟩
  case round =>
    obtain ⟨k, hk, rfl, hk00, hg, hb, hsz⟩ := hrel
    by_cases hlt : k < c
    · obtain ⟨m, hm⟩ : ∃ m, Nat.min k (c - k) = m := ⟨_, rfl⟩
      have hcp1 := rep_copy1 wr.drew w2.heap.size v c k m hg hm (by omega) hlt
      have hm' : min k (c - k) = m := hm
      have hm1 : 0 < m ∧ k + m ≤ c := by omega
      have HM : Hid _ := hm1
      have HS : Hid _ := hsz
      have HB : Hid _ := hb
      have HG : Hid _ := hg
      clear hm hm' hm1 hcp hmk hk00 hsz hb hg
      go_wp2
      go_region
      all_goals
        have hb2 : Below w2.heap.size w2 (wr.drew.setRow w2.heap.size (repArr v c (k + m)).toArray) := below_setRow HB.out.drew (Nat.le_refl _) _
        have hwr : wrap64 ((k : Int) + (m : Int)) = ((k + m : Nat) : Int) := by have := HM.out; unfold wrap64; omega
        have hg2 : (wr.drew.setRow w2.heap.size (repArr v c (k + m)).toArray).heap[w2.heap.size]? = some (.cells (repArr v c (k + m)).toArray 3) := setRow_heap wr.drew w2.heap.size _ _ _ _ HG.out
        have hs2 : (wr.drew.setRow w2.heap.size (repArr v c (k + m)).toArray).heap.size = w2.heap.size + 1 := (setRow_size _ _ _).trans HS.out
        rw [hwr]
        have HB2 : Hid _ := hb2
        have HG2 : Hid _ := hg2
        have HS2 : Hid _ := hs2
        clear hb2 hwr hg2 hs2
        generalize wr.drew.setRow w2.heap.size (repArr v c (k + m)).toArray = wf at *
        go_wp2
        go_roundw
        case rel => exact ⟨k + m, HM.out.2, rfl, fun h => by have := HM.out; omega, HG2.out, HB2.out, HS2.out⟩
        case measure => have := HM.out; simp [intOf]; omega
    · have hkk : k = c := by omega
      subst hkk
      rw [repArr_all] at hg
      go_wp2
      go_ret
      exact ⟨rfl, hg, hb, hsz⟩

end Go.Proofs.YtlpbelhfpoilpaaGreat

namespace Go.Scout
open Go.RowKit

def nullI : Int := 1073741824
def addV (s v : Int) : Int := if v = 1073741824 then s else if s = 1073741824 then v else s + v

end Go.Scout
namespace Go.Proofs.YtlpbelhfpoilpaaGreat
open Go.RowKit Go.Scout

set_option maxRecDepth 20000 in
set_option maxHeartbeats 4000000 in
theorem addValue_any (s v : Int) (w : World) (hs : -2305843009213693952 ≤ s ∧ s ≤ 2305843009213693952) (hv : -2305843009213693952 ≤ v ∧ v ≤ 2305843009213693952) :
    Calls Tryz.prog 112 #[.int .i64 s, .int .i64 v] w fun e w' => e = .returned (.int .i64 (addV s v)) ∧ w' = w := by
  have hw : wrap64 (s + v) = s + v := by unfold wrap64; omega
  unfold addV
  by_cases h1 : v = 1073741824
  · rw [if_pos h1]
    subst h1
    go_enter Tryz.func112, Tryz.ntmps112
    go_wp2
    go_ret
    exact ⟨rfl, rfl⟩
  · rw [if_neg h1]
    by_cases h2 : s = 1073741824
    · rw [if_pos h2]
      subst h2
      go_enter Tryz.func112, Tryz.ntmps112
      go_wp2
      go_ret
      exact ⟨rfl, rfl⟩
    · rw [if_neg h2]
      go_enter Tryz.func112, Tryz.ntmps112
      go_wp2
      go_ret
      exact ⟨rfl, rfl⟩

set_option maxRecDepth 20000 in
set_option maxHeartbeats 4000000 in
theorem newGroup_any (k : IntsV) (n : Nat) (w : World) (hn : n ≤ 4) :
    Calls Tryz.prog 105 #[k.val, .int .i64 n] w fun e w' => e = .returned (.pointer (some ⟨w.heap.size + 2, 0, none⟩)) ∧
      w'.heap[w.heap.size + 2]? = some (.cells #[k.val, .int .i64 0, .slice (some ⟨w.heap.size + 1, 0, none⟩) n n] 138) ∧
      w'.heap[w.heap.size + 1]? = some (.cells (List.replicate n (Value.int .i64 1073741824)).toArray 3) ∧ Below w.heap.size w w' ∧ w'.heap.size = w.heap.size + 3 := by
  obtain ⟨kad, kcap, kxs⟩ := k
  unfold IntsV.val
  simp only
  have hb1 := below_alloc w (.cells #[.int .i64 1073741824] 3)
  have hr := repeat_any w.heap.size 1073741824 n (w.alloc (.cells #[.int .i64 1073741824] 3)) hn (by simp)
  have hs1 : (w.alloc (.cells #[.int .i64 1073741824] 3)).heap.size = w.heap.size + 1 := by simp
  rw [hs1] at hr
  obtain ⟨w1, hw1⟩ : ∃ w1, w.alloc (.cells #[.int .i64 1073741824] 3) = w1 := ⟨_, rfl⟩
  have HW1 : Hid _ := hw1
  have HS1 : Hid _ := hs1
  have HB1 : Hid _ := hb1
  clear hs1 hb1
  rw [hw1] at hr
  clear hw1
  go_enter Tryz.func105, Tryz.ntmps105
  go_wp2_with fail
  rw [HW1.out]
  refine hr.mono ?_
  rintro e w2 ⟨rfl, hg2, hb2, hs2⟩
  have HG2 : Hid _ := hg2
  have HB2 : Hid _ := hb2
  have HS2 : Hid _ := hs2
  clear hr hg2 hb2 hs2
  go_wp2
  go_ret
  have h2 : w2.heap.size = w.heap.size + 2 := HS2.out
  have hbw : Below w.heap.size w w2 := by
    have := HB1.out
    rw [HW1.out] at this
    exact this.trans (HB2.out.mono (by omega))
  rw [← h2]
  refine ⟨rfl, heap_alloc_new _ _, ?_, hbw.alloc (by omega) _, by simp; omega⟩
  exact (Below.heap_alloc w2 _ _ (by omega)).trans HG2.out

theorem cells_cell {W : World} {b : Nat} {cs : Array Value} {t : TypeId} (h : W.heap[b]? = some (.cells cs t)) {i : Nat} {v : Value} (hv : cs[i]? = some v) : W.cell? ⟨b, i, none⟩ = some v := by
  simp [World.cell?, h, hv]
theorem cells_thaw {W : World} {b : Nat} {cs : Array Value} {t : TypeId} (h : W.heap[b]? = some (.cells cs t)) (i : Nat) : W.frozen? ⟨b, i, none⟩ = false := by
  simp [World.frozen?, h]
theorem cells_set {W : World} {b : Nat} {cs : Array Value} {t : TypeId} (h : W.heap[b]? = some (.cells cs t)) (i : Nat) (v : Value) : (W.setCell ⟨b, i, none⟩ v).heap[b]? = some (.cells (cs.setIfInBounds i v) t) := by
  rw [setCell_eq_setRow W b i cs t (0, 0) v h]
  exact setRow_heap W b _ _ _ _ h
theorem cells_other {W : World} {b c : Nat} (hne : c ≠ b) (i : Nat) (v : Value) : (W.setCell ⟨b, i, none⟩ v).heap[c]? = W.heap[c]? := Below.heap_setCell W ⟨b, i, none⟩ v c hne

end Go.Proofs.YtlpbelhfpoilpaaGreat

namespace Go.Scout
open Go.RowKit

theorem getD_in {α : Type} {l : List α} {d : α} {k : Nat} (hk : k < l.length) : l.getD k d ∈ l := by
  have e : l.getD k d = l[k] := by simp [List.getD, hk]
  rw [e]
  exact List.getElem_mem hk
def bigB (x : Int) : Prop := -2305843009213693952 ≤ x ∧ x ≤ 2305843009213693952
def addsN (ss row cols : List Int) : List Int := List.zipWith (fun s c => addV s (row.getD c.toNat 0)) ss cols
def addsK (ss row cols : List Int) (k : Nat) : List Int := (addsN ss row cols).take k ++ ss.drop k

theorem addsN_len {ss row cols : List Int} (h : ss.length = cols.length) : (addsN ss row cols).length = cols.length := by simp [addsN, h]
theorem addsK_zero {ss row cols : List Int} : addsK ss row cols 0 = ss := by simp [addsK]
theorem addsK_all {ss row cols : List Int} (h : ss.length = cols.length) : addsK ss row cols cols.length = addsN ss row cols := by
  unfold addsK
  rw [List.take_of_length_le (by rw [addsN_len h]; exact Nat.le_refl _), List.drop_of_length_le (by omega), List.append_nil]
theorem addsK_len {ss row cols : List Int} (h : ss.length = cols.length) {k : Nat} (hk : k ≤ cols.length) : (addsK ss row cols k).length = cols.length := by
  unfold addsK
  rw [List.length_append, List.length_take, List.length_drop, addsN_len h]
  omega
theorem addsK_get {ss row cols : List Int} (h : ss.length = cols.length) {k : Nat} (hk : k < cols.length) : (addsK ss row cols k)[k]? = some (ss.getD k 0) := by
  unfold addsK
  rw [List.getElem?_append_right (by rw [List.length_take, addsN_len h]; omega), List.length_take, addsN_len h, Nat.min_eq_left (by omega), Nat.sub_self, List.getElem?_drop]
  simp [List.getD, show k < ss.length by omega]
theorem addsK_set {ss row cols : List Int} (h : ss.length = cols.length) {k : Nat} (hk : k < cols.length) : (addsK ss row cols k).set k (addV (ss.getD k 0) (row.getD (cols.getD k 0).toNat 0)) = addsK ss row cols (k + 1) := by
  unfold addsK
  have hl : ((addsN ss row cols).take k).length = k := by rw [List.length_take, addsN_len h]; omega
  rw [List.set_append_right _ _ (by omega), hl, Nat.sub_self, List.drop_eq_getElem_cons (by omega), List.set_cons_zero, List.take_succ_eq_append_getElem (by rw [addsN_len h]; omega), List.append_assoc]
  congr 2
  simp [addsN, List.getD, hk, show k < ss.length by omega]

end Go.Scout
namespace Go.Proofs.YtlpbelhfpoilpaaGreat
open Go.RowKit Go.Scout

set_option maxRecDepth 20000 in
set_option maxHeartbeats 8000000 in
theorem groupAdd_any (gb sb : Nat) (kv : Value) (cnt : Nat) (ss : List Int) (x c : IntsV) (w : World) (hgs : gb ≠ sb)
    (hg : w.heap[gb]? = some (.cells #[kv, .int .i64 cnt, .slice (some ⟨sb, 0, none⟩) c.xs.length c.xs.length] 138)) (hs : w.heap[sb]? = some (.cells (ss.map (Value.int .i64)).toArray 3)) (hl : ss.length = c.xs.length) (hcl : c.xs.length ≤ 4)
    (hx : x.At w) (hc : c.At w) (hxb : ∀ a, x.ad = some a → a.block ≠ gb ∧ a.block ≠ sb) (hcb : 0 < c.xs.length → ∀ a, c.ad = some a → a.block ≠ gb ∧ a.block ≠ sb) (ha : allB c.xs x.xs.length = true)
    (hcnt : cnt ≤ 1000000) (hbs : ∀ s ∈ ss, bigB s) (hbx : ∀ v ∈ x.xs, bigB v) :
    Calls Tryz.prog 106 #[.pointer (some ⟨gb, 0, none⟩), x.val, c.val] w fun e w' => (∃ v, e = .returned v) ∧
      w'.heap[gb]? = some (.cells #[kv, .int .i64 (cnt + 1 : Nat), .slice (some ⟨sb, 0, none⟩) c.xs.length c.xs.length] 138) ∧ w'.heap[sb]? = some (.cells ((addsN ss x.xs c.xs).map (Value.int .i64)).toArray 3) ∧
      Kept (fun b => b ≠ gb ∧ b ≠ sb) w w' ∧ w'.heap.size = w.heap.size := by
  obtain ⟨xad, xcap, xs⟩ := x
  obtain ⟨cad, ccap, cs⟩ := c
  unfold IntsV.val
  simp only at *
  have c1 : w.cell? ⟨gb, 1, none⟩ = some (.int .i64 cnt) := cells_cell hg rfl
  have f1 : w.frozen? ⟨gb, 1, none⟩ = false := cells_thaw hg 1
  have hw1 : wrap64 ((cnt : Int) + 1) = ((cnt + 1 : Nat) : Int) := by unfold wrap64; omega
  have HG : Hid _ := hg
  have HS : Hid _ := hs
  have HX : Hid _ := hx
  have HC : Hid _ := hc
  have HXB : Hid _ := hxb
  have HCB : Hid _ := hcb
  have HA : Hid _ := ha
  have HL : Hid _ := hl
  have HGS : Hid _ := hgs
  have HBS : Hid _ := hbs
  have HBX : Hid _ := hbx
  clear hg hs hx hc hxb hcb ha hl hgs hbs hbx
  go_enter Tryz.func106, Tryz.ntmps106
  go_wp2
  go_loopw [17] (fun i wr => ∃ k : Nat, k ≤ cs.length ∧ i = .int .i64 k ∧ wr.heap[gb]? = some (.cells #[kv, .int .i64 (cnt + 1 : Nat), .slice (some ⟨sb, 0, none⟩) cs.length cs.length] 138) ∧ wr.heap[sb]? = some (.cells ((addsK ss xs cs k).map (Value.int .i64)).toArray 3) ∧
    Kept (fun b => b ≠ gb ∧ b ≠ sb) w wr ∧ wr.heap.size = w.heap.size) (fun i _ => cs.length - (intOf i).toNat)
  case atStart =>
    refine ⟨0, Nat.zero_le _, rfl, ?_, ?_, Kept.setCell _ _ _ (fun h => h.1 rfl), by simp [World.setCell]⟩
    · have := cells_set HG.out 1 (.int .i64 (wrap64 ((cnt : Int) + 1)))
      rw [hw1] at this
      first | exact this | (rw [hw1]; exact this)
    · rw [cells_other (fun e => HGS.out e.symm), addsK_zero]
      exact HS.out
  case round =>
    obtain ⟨k, hk, rfl, hgk, hsk, hkk, hzk⟩ := hrel
    by_cases hlt : k < cs.length
    · obtain ⟨cb, coff, rfl, hcc⟩ := HC.out.get hlt
      have hck := cell_keep (hcc k hlt) hkk (HCB.out (by omega) ⟨cb, coff, none⟩ rfl)
      have hbd := allB_at HA.out hlt
      have hcv : cs.getD k 0 = cs[k] := by simp [List.getD, hlt]
      have hkn : cs[k].toNat < xs.length := by omega
      obtain ⟨xb, xoff, rfl, hxc⟩ := HX.out.get hkn
      have hxk := cell_keep (hxc _ hkn) hkk (HXB.out ⟨xb, xoff, none⟩ rfl)
      have c2 : wr.cell? ⟨gb, 2, none⟩ = some (.slice (some ⟨sb, 0, none⟩) cs.length cs.length) := cells_cell hgk rfl
      have c3 : wr.cell? ⟨sb, k, none⟩ = some (.int .i64 (ss.getD k 0)) := cells_cell hsk (by rw [List.getElem?_toArray, List.getElem?_map, addsK_get HL.out hlt]; rfl)
      have f3 : wr.frozen? ⟨sb, k, none⟩ = false := cells_thaw hsk k
      have hset := addsK_set (row := xs) HL.out hlt
      rw [hcv] at hset hck
      have hb1 : bigB (ss.getD k 0) := HBS.out _ (getD_in (by have := HL.out; omega))
      have hb2 : bigB (xs.getD cs[k].toNat 0) := HBX.out _ (getD_in hkn)
      have hcn : ((cs[k].toNat : Nat) : Int) = cs[k] := by omega
      have HGK : Hid _ := hgk
      have HSK : Hid _ := hsk
      have HKK : Hid _ := hkk
      have HZK : Hid _ := hzk
      have HSET : Hid _ := hset
      clear hgk hsk hkk hzk hset hcc hxc hcv
      generalize ss.getD k 0 = sv at *
      generalize xs.getD cs[k].toNat 0 = xv at *
      generalize hck0 : cs[k] = ck at *
      clear hck0
      obtain ⟨cn, rfl⟩ : ∃ cn : Nat, ck = (cn : Int) := ⟨ck.toNat, by omega⟩
      simp only [Int.toNat_natCast] at hkn hxk
      clear hcn c1 f1
      obtain ⟨wf, hwf⟩ : ∃ wf, (wr.setCell ⟨sb, k, none⟩ (.int .i64 (addV sv xv))).drew = wf := ⟨_, rfl⟩
      have hkf : Kept (fun b => b ≠ sb) wr wf := by
        rw [← hwf]
        exact (Kept.setCell wr ⟨sb, k, none⟩ _ (fun h => h rfl)).trans ⟨rfl, rfl, rfl, Nat.le_refl _, fun _ _ _ => rfl⟩
      have HF1 : Hid (wf.heap[gb]? = some (.cells #[kv, .int .i64 (cnt + 1 : Nat), .slice (some ⟨sb, 0, none⟩) cs.length cs.length] 138)) := (hkf.block gb (Array.getElem?_eq_some_iff.1 HGK.out).1 HGS.out).trans HGK.out
      have HF2 : Hid (wf.heap[sb]? = some (.cells ((addsK ss xs cs (k + 1)).map (Value.int .i64)).toArray 3)) := by
        have h := cells_set HSK.out k (.int .i64 (addV sv xv))
        rw [List.setIfInBounds_toArray, ← List.map_set, HSET.out] at h
        rw [← hwf]
        exact h
      have HF3 : Hid (Kept (fun b => b ≠ gb ∧ b ≠ sb) w wf) := HKK.out.trans (hkf.mono fun _ _ h => h.2)
      have HF4 : Hid (wf.heap.size = w.heap.size) := by
        have h : wf.heap.size = wr.heap.size := by rw [← hwf]; show (wr.setCell _ _).heap.size = _; simp [World.setCell]
        exact h.trans HZK.out
      have HWF : Hid _ := hwf
      clear hkf hwf HGK HSK HKK HZK HSET HG HS HA HL HGS HBS HBX HX HC HXB HCB hw1 hcnt
      go_wp2
      go_region_with (refine (addValue_any sv xv _ hb1 hb2).mono ?_; rintro e w4 ⟨rfl, rfl⟩)
      all_goals
        rw [HWF.out]
        go_wp2
        go_roundw
        case rel => exact ⟨k + 1, by omega, by go_num, HF1.out, HF2.out, HF3.out, HF4.out⟩
        case measure => simp [intOf]; omega
    · have hkk' : k = cs.length := by omega
      subst hkk'
      rw [addsK_all HL.out] at hsk
      have HE1 : Hid _ := hgk
      have HE2 : Hid _ := hsk
      have HE3 : Hid _ := hkk
      have HE4 : Hid _ := hzk
      clear hgk hsk hkk hzk
      go_wp2
      (try simp only [Exit.inBlock, Exit.then])
      refine bodyPost_end (results_none rfl _ _ _) rfl ?_
      exact ⟨⟨_, rfl⟩, HE1.out, HE2.out, HE3.out, HE4.out⟩

end Go.Proofs.YtlpbelhfpoilpaaGreat

