import Derived.Laws.CopyOwn
import Derived.Deep.OwnRows
import Derived.Test.YtdbkdomhlkcbpaaCBaseBase2Base3Base4
import Derived.Test.YtdbkdomhlkcbpaaCItE
set_option linter.all false
namespace Go.Scout
open Go.RowKit

theorem heap_alloc_new (w : World) (o : Obj) : (w.alloc o).heap[w.heap.size]? = some o := by
  show (w.heap.push o)[w.heap.size]? = _
  simp

theorem setRow_alloc (w : World) (c cs : Array Value) (t : TypeId) : (w.alloc (.cells c t)).setRow w.heap.size cs = w.alloc (.cells cs t) := by
  unfold World.setRow World.alloc
  simp only [World.mk.injEq, and_true]
  apply Array.ext_getElem?
  intro i
  rw [Array.getElem?_modify, Array.getElem?_push, Array.getElem?_push]
  by_cases h : i = w.heap.size
  · subst h
    simp
  · have : ¬ w.heap.size = i := fun e => h e.symm
    simp [h, this]

theorem setCell_alloc (w : World) (c : Array Value) (t : TypeId) (i : Nat) (v : Value) : (w.alloc (.cells c t)).setCell ⟨w.heap.size, i, none⟩ v = w.alloc (.cells (c.setIfInBounds i v) t) := by
  rw [setCell_eq_setRow (w.alloc (.cells c t)) w.heap.size i c t (0, 0) v (heap_alloc_new w _), setRow_alloc]

theorem addr_add (b off j : Nat) : (⟨b, off, none⟩ : Addr).add j = ⟨b, off + j, none⟩ := by unfold Addr.add; split <;> simp_all

/-- copy of elements of whatever size to the head of a row: all is read before anything is written. -/
theorem run_copy_wide {P : Program} (w : World) (dT sT ty elem : TypeId) (size g dLen dCap : Nat) (sp : Option Addr) (sLen sCap : Nat) (cur : Array Value) (t : TypeId) (cs : List Value)
    (hu : P.underlying dT = some (.slice elem)) (hs : (P.info? elem).map (·.size) = some size) (hg : w.heap[g]? = some (.cells cur t (0, 0))) (hle : sLen ≤ dLen) (hn : cs.length = sLen * size)
    (hsrc : 0 < cs.length → ∃ a, sp = some a ∧ ∀ j v, cs[j]? = some v → w.cell? (a.add j) = some v) (hfit : cs.length ≤ cur.size) (h1 : ∀ v ∈ cs, v.oneCell' = true) :
    (Builtin.copy_ #[dT, sT] ty #[.slice (some ⟨g, 0, none⟩) dLen dCap, .slice sp sLen sCap]).run P w = .ok (goInt sLen) (w.setRow g (cs ++ cur.toList.drop cs.length).toArray) := by
  have hst := run_storeCells_at P g 0 t cs 0 cur w hg (by simpa using hfit) h1
  have hmin : Nat.min sLen dLen = sLen := Nat.min_eq_left hle
  cases hq : P.info? elem with
  | none => simp [hq] at hs
  | some i =>
    have hi : i.size = size := by simpa [hq] using hs
    by_cases h0 : cs.length = 0
    · obtain rfl : cs = [] := List.eq_nil_of_length_eq_zero h0
      have hself : w.setRow g cur = w := setRow_self w g cur t (0, 0) hg
      have hl : ∀ (x : Addr), (loadCells x (sLen * size)).run P w = .ok #[] w := fun x => by
        rw [← hn]
        simpa using run_loadCells_list (P := P) w x [] (by simp)
      cases sp <;> simp [Builtin.copy_, run_underlying hu, Builtin.lenOf, Builtin.firstCells, sizeOf, typeInfo, hq, hi, hmin, storeCells, hl, hself]
    · obtain ⟨a, rfl, hc⟩ := hsrc (by omega)
      have hl := run_loadCells_list (P := P) w a cs hc
      rw [hn] at hl
      simp [Builtin.copy_, run_underlying hu, Builtin.lenOf, Builtin.firstCells, sizeOf, typeInfo, hq, hi, hmin, hl, hst]

theorem wpList_copy_wide {P : Program} {w : World} {ops : Array Oper} {rest : List Oper} {o : Oper} {a : Act} {Q : Exit → Act → World → Prop} (hgd : o.guard = none) (d s : Operand) (dT sT : TypeId)
    (ho : o.op = .call { callee := .builtin .copy, args := #[d, s], argTypes := #[dT, sT] }) (elem : TypeId) (size : Nat) (hu : P.underlying dT = some (.slice elem)) (hs : (P.info? elem).map (·.size) = some size)
    (g dLen dCap : Nat) (sp : Option Addr) (sLen sCap : Nat) (hd : a.eval d = .slice (some ⟨g, 0, none⟩) dLen dCap) (hsv : a.eval s = .slice sp sLen sCap)
    (cur : Array Value) (t : TypeId) (cs : List Value) (hg : w.heap[g]? = some (.cells cur t (0, 0))) (hle : sLen ≤ dLen) (hn : cs.length = sLen * size)
    (hsrc : 0 < cs.length → ∃ a, sp = some a ∧ ∀ j v, cs[j]? = some v → w.cell? (a.add j) = some v) (hfit : cs.length ≤ cur.size) (h1 : ∀ v ∈ cs, v.oneCell' = true)
    (h : wpList P ops Q rest (a.put o.dst (goInt sLen)) (w.setRow g (cs ++ cur.toList.drop cs.length).toArray)) : wpList P ops Q (o :: rest) a w := by
  refine wpList_plain hgd fun K hK => ?_
  have hrun := run_copy_wide (P := P) w dT sT o.type elem size g dLen dCap sp sLen sCap cur t cs hu hs hg hle hn hsrc hfit h1
  unfold Oper.wp
  simp [execOp, ho, resolve, invoke, builtin, hd, hsv, hrun, Result.andThen]
  exact hK _ _ h

/-- What lend makes: the numbers, and two marks behind them. -/
def lentCells (xs : List Int) : Array Value := (xs.map (Value.int .i64) ++ [Value.int .i64 77777, Value.int .i64 77777]).toArray

theorem madeCells_one (z : Value) (n : Nat) : madeCells #[z] n = (List.replicate n z).toArray := by
  apply Array.ext_getElem?
  intro i
  by_cases hi : i < n
  · simp [madeCells, hi]
    simp [Nat.mod_one]
  · simp [madeCells, hi]

/-- The rows that lend goes through: two zeros behind, then one mark, then two. -/
def lend1 (xs : List Int) : Array Value := (xs.map (Value.int .i64) ++ [Value.int .i64 0, Value.int .i64 0]).toArray
def lend2 (xs : List Int) : Array Value := (xs.map (Value.int .i64) ++ [Value.int .i64 77777, Value.int .i64 0]).toArray

theorem lend1_at (xs : List Int) : (lend1 xs)[xs.length]? = some (.int .i64 0) := by simp [lend1]
theorem lend2_at (xs : List Int) : (lend2 xs)[xs.length + 1]? = some (.int .i64 0) := by simp [lend2]
theorem lend1_set (xs : List Int) : (lend1 xs).setIfInBounds xs.length (.int .i64 77777) = lend2 xs := by
  simp only [lend1, lend2, List.setIfInBounds_toArray]
  rw [List.set_append_right _ _ (by simp)]
  simp
theorem lend2_set (xs : List Int) : (lend2 xs).setIfInBounds (xs.length + 1) (.int .i64 77777) = lentCells xs := by
  simp only [lend2, lentCells, List.setIfInBounds_toArray]
  rw [List.set_append_right _ _ (by simp)]
  simp

theorem setCell_alloc_lend1 (w : World) (xs : List Int) (t : TypeId) : (w.alloc (.cells (lend1 xs) t)).setCell ⟨w.heap.size, xs.length, none⟩ (.int .i64 77777) = w.alloc (.cells (lend2 xs) t) := by rw [setCell_alloc, lend1_set]
theorem setCell_alloc_lend2 (w : World) (xs : List Int) (t : TypeId) : (w.alloc (.cells (lend2 xs) t)).setCell ⟨w.heap.size, xs.length + 1, none⟩ (.int .i64 77777) = w.alloc (.cells (lentCells xs) t) := by rw [setCell_alloc, lend2_set]

theorem run_copy_lend {P : Program} (w : World) (dT elem : TypeId) (ao : Option Addr) (cap : Nat) (xs : List Int) (hx : IntsAt w ao xs) (hu : P.underlying dT = some (.slice elem)) (hs : (P.info? elem).map (·.size) = some 1) (ty : TypeId) :
    (Builtin.copy_ #[dT, dT] ty #[.slice (some ⟨w.heap.size, 0, none⟩) (xs.length + 2) (xs.length + 2), .slice ao xs.length cap]).run P (w.alloc (.cells (madeCells #[.int .i64 0] (xs.length + 2)) elem)) =
      .ok (goInt xs.length) (w.alloc (.cells (lend1 xs) elem)) := by
  rw [run_copy_wide (w.alloc (.cells (madeCells #[.int .i64 0] (xs.length + 2)) elem)) dT dT ty elem 1 w.heap.size (xs.length + 2) (xs.length + 2) ao xs.length cap (madeCells #[.int .i64 0] (xs.length + 2)) elem (xs.map (Value.int .i64)) hu hs
    (heap_alloc_new _ _) (by omega) (by simp) ?_ (by simp [size_madeCells]) ?_, setRow_alloc]
  · congr 3
    rw [madeCells_one]
    unfold lend1
    congr 2
    rw [List.length_map, List.drop_replicate, show xs.length + 2 - xs.length = 2 by omega]
    rfl
  · intro h0
    have h0' : 0 < xs.length := by simpa using h0
    obtain ⟨b, off, rfl, hc⟩ := hx.get h0'
    refine ⟨⟨b, off, none⟩, rfl, fun j v hj => ?_⟩
    have hjl : j < xs.length := by
      have := (List.getElem?_eq_some_iff.1 hj).1
      simpa using this
    have e := cell_alloc (hc j hjl) (.cells (madeCells #[.int .i64 0] (xs.length + 2)) elem)
    simp [hjl] at hj
    subst hj
    rw [addr_add]
    simpa [hjl] using e
  · intro v hv
    simp at hv
    obtain ⟨a, _, rfl⟩ := hv
    rfl

end Go.Scout

namespace Go.Scout
open Go.RowKit

/-- A row that is a block's alone, with what is behind it. -/
def ownEl (e : TypeId) : El IntsV (List Int) where
  enc := IntsV.val
  At x W := rowEl.At x W ∧ W.ownsRow 0 e 1 x.val x.xs.length (x.xs.map (Value.int .i64))
  blk := rowEl.blk
  key := IntsV.xs
  keep := by
    rintro x A B ⟨h, ho⟩ hs hb
    refine ⟨rowEl.keep h hs hb, ho.1, ?_⟩
    rcases ho.2 with h | ⟨g, cap, cur, hv, hb', hg, h1, h2, h3, h4⟩
    · exact .inl h
    · refine .inr ⟨g, cap, cur, hv, hb', (hb g (Array.getElem?_eq_some_iff.1 hg).1 ?_).trans hg, h1, h2, h3, h4⟩
      have : x.ad = some ⟨g, 0, none⟩ := by
        have h := hv
        unfold IntsV.val at h
        injection h
      show Option.map _ x.ad = _
      rw [this]
      rfl
  inn := fun h hb => rowEl.inn h.1 hb

def pickN (xs cols : List Int) : List Int := cols.map fun c => xs.getD c.toNat 0
def pickArr (vals : List Int) (k : Nat) : Array Value := ((vals.take k).map (Value.int .i64) ++ List.replicate (vals.length - k) (Value.int .i64 0)).toArray

theorem pickArr_set (vals : List Int) {k : Nat} (hk : k < vals.length) : (pickArr vals k).setIfInBounds k (.int .i64 (vals.getD k 0)) = pickArr vals (k + 1) := by
  unfold pickArr
  rw [List.setIfInBounds_toArray]
  congr 1
  have h1 : ((vals.take k).map (Value.int .i64)).length = k := by simp; omega
  have h2 : vals.length - k = (vals.length - (k + 1)) + 1 := by omega
  rw [List.set_append_right _ _ (by omega), h1, Nat.sub_self, h2, List.replicate_succ, List.set_cons_zero, ← take_snoc vals 0 hk]
  simp

theorem pickArr_all (vals : List Int) : pickArr vals vals.length = (vals.map (Value.int .i64)).toArray := by simp [pickArr]
theorem pickArr_none (vals : List Int) : madeCells #[.int .i64 0] vals.length = pickArr vals 0 := by
  rw [madeCells_one]
  simp [pickArr]

theorem own_of_alloc (w : World) (vals : List Int) (e : TypeId) (hl : vals.length ≤ 1000000) :
    (ownEl e).At ⟨some ⟨w.heap.size, 0, none⟩, vals.length, vals⟩ (w.alloc (.cells (vals.map (Value.int .i64)).toArray e)) := by
  have ho : (w.alloc (.cells (vals.map (Value.int .i64)).toArray e)).ownsRow 0 e 1 (.slice (some ⟨w.heap.size, 0, none⟩) vals.length vals.length) vals.length (vals.map (Value.int .i64)) := by
    refine ⟨by simp, .inr ⟨w.heap.size, _, _, rfl, Nat.zero_le _, heap_alloc_new w _, Nat.le_refl _, by unfold maxLen; omega, by simp, by rw [List.take_of_length_le (by simp)]⟩⟩
  refine ⟨⟨⟨by show vals.length ≤ _; omega, fun i hi => ⟨w.heap.size, 0, rfl, ?_⟩⟩, fun a ha => by cases ha; simp, fun e => by cases e⟩, ho⟩
  have hi' : i < vals.length := hi
  simp [hi', List.getD]

end Go.Scout
namespace Go.Proofs.Ytdbkdomhlkcbpaa
open Go.RowKit Go.Scout

set_option maxRecDepth 20000 in
set_option maxHeartbeats 4000000 in
theorem pick_any (x c : IntsV) (w : World) (hx : x.At w) (hc : c.At w) (ha : allB c.xs x.xs.length = true) (hl : c.xs.length ≤ 1000) :
    Calls Try.prog 96 #[x.val, c.val] w fun e w' => e = .returned (.slice (some ⟨w.heap.size, 0, none⟩) c.xs.length c.xs.length) ∧ w' = w.alloc (.cells ((pickN x.xs c.xs).map (Value.int .i64)).toArray 3) := by
  obtain ⟨xad, xcap, xs⟩ := x
  obtain ⟨cad, ccap, cs⟩ := c
  unfold IntsV.val
  simp only at ha hl
  have hmk := run_make_row' (P := Try.prog) 23 3 (.int .i64 0) 8 Try.underlying23 Try.infoInt rfl .i64 .i64 cs.length (by omega) (by omega)
  have hvl : (pickN xs cs).length = cs.length := by simp [pickN]
  have hm0 := pickArr_none (pickN xs cs)
  rw [hvl] at hm0
  rw [hm0] at hmk
  have HX : Hid _ := hx
  have HC : Hid _ := hc
  have HA : Hid _ := ha
  have HV : Hid _ := hvl
  have hxl := hx.1
  simp only at hxl
  clear hx hc ha hm0
  generalize hvv : pickN xs cs = vals at *
  have HVV : Hid _ := hvv
  clear hvv
  have hvl' := HV.out
  clear hvl
  simp only
  go_enter Try.func96, Try.ntmps96
  go_wp2
  go_loopw [13] (fun i wr => ∃ k : Nat, k ≤ cs.length ∧ i = .int .i64 k ∧ w.alloc (.cells (pickArr vals k) 3) = wr) (fun i _ => cs.length - (intOf i).toNat)
  case atStart => exact ⟨0, Nat.zero_le _, rfl, rfl⟩
  case round =>
    obtain ⟨k, hk, rfl, rfl⟩ := hrel
    by_cases hlt : k < cs.length
    · obtain ⟨cb, coff, rfl, hcc⟩ := HC.out.get hlt
      have hck := cell_below (below_alloc w (.cells (pickArr vals k) 3)) (hcc k hlt)
      have hbd := allB_at HA.out hlt
      have hcv : cs.getD k 0 = cs[k] := by simp [List.getD, hlt]
      rw [hcv] at hck
      have hvk : vals.getD k 0 = xs.getD cs[k].toNat 0 := by
        rw [← HVV.out]
        simp [pickN, List.getD, hlt]
      have hkn : cs[k].toNat < xs.length := by omega
      obtain ⟨xb, xoff, rfl, hxc⟩ := HX.out.get hkn
      have hxk := cell_below (below_alloc w (.cells (pickArr vals k) 3)) (hxc _ hkn)
      rw [← hvk] at hxk
      have hst := setCell_alloc w (pickArr vals k) 3 k (.int .i64 (vals.getD k 0))
      rw [pickArr_set vals (by omega)] at hst
      have hcn : ((cs[k].toNat : Nat) : Int) = cs[k] := by omega
      have hcell : (w.alloc (.cells (pickArr vals k) 3)).cell? ⟨w.heap.size, k, none⟩ = some (.int .i64 0) := by
        have : (pickArr vals k)[k]? = some (.int .i64 0) := by
          have h1 : ((vals.take k).map (Value.int .i64)).length = k := by simp; omega
          unfold pickArr
          rw [List.getElem?_toArray, List.getElem?_append_right (by omega), h1, Nat.sub_self, List.getElem?_replicate, if_pos (by omega)]
        simp [this]
      generalize vals.getD k 0 = vk at *
      generalize hck0 : cs[k] = ck at *
      clear hcv hvk hxc hcc hck0
      obtain ⟨cn, rfl⟩ : ∃ cn : Nat, ck = (cn : Int) := ⟨ck.toNat, by omega⟩
      simp only [Int.toNat_natCast] at hkn hxk
      clear hcn
      go_wp2
      go_roundw
      case rel => exact ⟨k + 1, by omega, by go_num, by first | rfl | trivial | assumption⟩
      case measure => simp [intOf]; omega
    · have hkk : k = cs.length := by omega
      subst hkk
      have hpa : pickArr vals cs.length = (vals.map (Value.int .i64)).toArray := by rw [← hvl']; exact pickArr_all vals
      rw [hpa]
      go_wp2
      go_ret
      exact ⟨rfl, rfl⟩

end Go.Proofs.Ytdbkdomhlkcbpaa

