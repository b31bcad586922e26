import Derived.Test.YtpkihnafdaedoaaBase4
import Derived.Laws.CopyOwn
import Derived.Deep.OwnRows
namespace Go.Scout
open Go.RowKit

theorem heap_alloc_new (w : World) (o : Obj) : (w.alloc o).heap[w.heap.size]? = some o := by
  show (w.heap.push o)[w.heap.size]? = _
  simp

theorem setRow_alloc (w : World) (c cs : Array Value) (t : TypeId) : (w.alloc (.cells c t)).setRow w.heap.size cs = w.alloc (.cells cs t) := by
  unfold World.setRow World.alloc
  simp only [World.mk.injEq, and_true]
  apply Array.ext_getElem?
  intro i
  rw [Array.getElem?_modify, Array.getElem?_push, Array.getElem?_push]
  by_cases h : i = w.heap.size
  · subst h
    simp
  · have : ¬ w.heap.size = i := fun e => h e.symm
    simp [h, this]

theorem setCell_alloc (w : World) (c : Array Value) (t : TypeId) (i : Nat) (v : Value) : (w.alloc (.cells c t)).setCell ⟨w.heap.size, i, none⟩ v = w.alloc (.cells (c.setIfInBounds i v) t) := by
  rw [setCell_eq_setRow (w.alloc (.cells c t)) w.heap.size i c t (0, 0) v (heap_alloc_new w _), setRow_alloc]

theorem addr_add (b off j : Nat) : (⟨b, off, none⟩ : Addr).add j = ⟨b, off + j, none⟩ := by unfold Addr.add; split <;> simp_all

/-- copy of elements of whatever size to the head of a row: all is read before anything is written. -/
theorem run_copy_wide {P : Program} (w : World) (dT sT ty elem : TypeId) (size g dLen dCap : Nat) (sp : Option Addr) (sLen sCap : Nat) (cur : Array Value) (t : TypeId) (cs : List Value)
    (hu : P.underlying dT = some (.slice elem)) (hs : (P.info? elem).map (·.size) = some size) (hg : w.heap[g]? = some (.cells cur t (0, 0))) (hle : sLen ≤ dLen) (hn : cs.length = sLen * size)
    (hsrc : 0 < cs.length → ∃ a, sp = some a ∧ ∀ j v, cs[j]? = some v → w.cell? (a.add j) = some v) (hfit : cs.length ≤ cur.size) (h1 : ∀ v ∈ cs, v.oneCell' = true) :
    (Builtin.copy_ #[dT, sT] ty #[.slice (some ⟨g, 0, none⟩) dLen dCap, .slice sp sLen sCap]).run P w = .ok (goInt sLen) (w.setRow g (cs ++ cur.toList.drop cs.length).toArray) := by
  have hst := run_storeCells_at P g 0 t cs 0 cur w hg (by simpa using hfit) h1
  have hmin : Nat.min sLen dLen = sLen := Nat.min_eq_left hle
  cases hq : P.info? elem with
  | none => simp [hq] at hs
  | some i =>
    have hi : i.size = size := by simpa [hq] using hs
    by_cases h0 : cs.length = 0
    · obtain rfl : cs = [] := List.eq_nil_of_length_eq_zero h0
      have hself : w.setRow g cur = w := setRow_self w g cur t (0, 0) hg
      have hl : ∀ (x : Addr), (loadCells x (sLen * size)).run P w = .ok #[] w := fun x => by
        rw [← hn]
        simpa using run_loadCells_list (P := P) w x [] (by simp)
      cases sp <;> simp [Builtin.copy_, run_underlying hu, Builtin.lenOf, Builtin.firstCells, sizeOf, typeInfo, hq, hi, hmin, storeCells, hl, hself]
    · obtain ⟨a, rfl, hc⟩ := hsrc (by omega)
      have hl := run_loadCells_list (P := P) w a cs hc
      rw [hn] at hl
      simp [Builtin.copy_, run_underlying hu, Builtin.lenOf, Builtin.firstCells, sizeOf, typeInfo, hq, hi, hmin, hl, hst]

theorem wpList_copy_wide {P : Program} {w : World} {ops : Array Oper} {rest : List Oper} {o : Oper} {a : Act} {Q : Exit → Act → World → Prop} (hgd : o.guard = none) (d s : Operand) (dT sT : TypeId)
    (ho : o.op = .call { callee := .builtin .copy, args := #[d, s], argTypes := #[dT, sT] }) (elem : TypeId) (size : Nat) (hu : P.underlying dT = some (.slice elem)) (hs : (P.info? elem).map (·.size) = some size)
    (g dLen dCap : Nat) (sp : Option Addr) (sLen sCap : Nat) (hd : a.eval d = .slice (some ⟨g, 0, none⟩) dLen dCap) (hsv : a.eval s = .slice sp sLen sCap)
    (cur : Array Value) (t : TypeId) (cs : List Value) (hg : w.heap[g]? = some (.cells cur t (0, 0))) (hle : sLen ≤ dLen) (hn : cs.length = sLen * size)
    (hsrc : 0 < cs.length → ∃ a, sp = some a ∧ ∀ j v, cs[j]? = some v → w.cell? (a.add j) = some v) (hfit : cs.length ≤ cur.size) (h1 : ∀ v ∈ cs, v.oneCell' = true)
    (h : wpList P ops Q rest (a.put o.dst (goInt sLen)) (w.setRow g (cs ++ cur.toList.drop cs.length).toArray)) : wpList P ops Q (o :: rest) a w := by
  refine wpList_plain hgd fun K hK => ?_
  have hrun := run_copy_wide (P := P) w dT sT o.type elem size g dLen dCap sp sLen sCap cur t cs hu hs hg hle hn hsrc hfit h1
  unfold Oper.wp
  simp [execOp, ho, resolve, invoke, builtin, hd, hsv, hrun, Result.andThen]
  exact hK _ _ h

/-- What lend makes: the numbers, and two marks behind them. -/
def lentCells (xs : List Int) : Array Value := (xs.map (Value.int .i64) ++ [Value.int .i64 77777, Value.int .i64 77777]).toArray

theorem madeCells_one (z : Value) (n : Nat) : madeCells #[z] n = (List.replicate n z).toArray := by
  apply Array.ext_getElem?
  intro i
  by_cases hi : i < n
  · simp [madeCells, hi]
    simp [Nat.mod_one]
  · simp [madeCells, hi]

/-- The rows that lend goes through: two zeros behind, then one mark, then two. -/
def lend1 (xs : List Int) : Array Value := (xs.map (Value.int .i64) ++ [Value.int .i64 0, Value.int .i64 0]).toArray
def lend2 (xs : List Int) : Array Value := (xs.map (Value.int .i64) ++ [Value.int .i64 77777, Value.int .i64 0]).toArray

theorem lend1_at (xs : List Int) : (lend1 xs)[xs.length]? = some (.int .i64 0) := by simp [lend1]
theorem lend2_at (xs : List Int) : (lend2 xs)[xs.length + 1]? = some (.int .i64 0) := by simp [lend2]
theorem lend1_set (xs : List Int) : (lend1 xs).setIfInBounds xs.length (.int .i64 77777) = lend2 xs := by
  simp only [lend1, lend2, List.setIfInBounds_toArray]
  rw [List.set_append_right _ _ (by simp)]
  simp
theorem lend2_set (xs : List Int) : (lend2 xs).setIfInBounds (xs.length + 1) (.int .i64 77777) = lentCells xs := by
  simp only [lend2, lentCells, List.setIfInBounds_toArray]
  rw [List.set_append_right _ _ (by simp)]
  simp

theorem setCell_alloc_lend1 (w : World) (xs : List Int) (t : TypeId) : (w.alloc (.cells (lend1 xs) t)).setCell ⟨w.heap.size, xs.length, none⟩ (.int .i64 77777) = w.alloc (.cells (lend2 xs) t) := by rw [setCell_alloc, lend1_set]
theorem setCell_alloc_lend2 (w : World) (xs : List Int) (t : TypeId) : (w.alloc (.cells (lend2 xs) t)).setCell ⟨w.heap.size, xs.length + 1, none⟩ (.int .i64 77777) = w.alloc (.cells (lentCells xs) t) := by rw [setCell_alloc, lend2_set]

theorem run_copy_lend {P : Program} (w : World) (dT elem : TypeId) (ao : Option Addr) (cap : Nat) (xs : List Int) (hx : IntsAt w ao xs) (hu : P.underlying dT = some (.slice elem)) (hs : (P.info? elem).map (·.size) = some 1) (ty : TypeId) :
    (Builtin.copy_ #[dT, dT] ty #[.slice (some ⟨w.heap.size, 0, none⟩) (xs.length + 2) (xs.length + 2), .slice ao xs.length cap]).run P (w.alloc (.cells (madeCells #[.int .i64 0] (xs.length + 2)) elem)) =
      .ok (goInt xs.length) (w.alloc (.cells (lend1 xs) elem)) := by
  rw [run_copy_wide (w.alloc (.cells (madeCells #[.int .i64 0] (xs.length + 2)) elem)) dT dT ty elem 1 w.heap.size (xs.length + 2) (xs.length + 2) ao xs.length cap (madeCells #[.int .i64 0] (xs.length + 2)) elem (xs.map (Value.int .i64)) hu hs
    (heap_alloc_new _ _) (by omega) (by simp) ?_ (by simp [size_madeCells]) ?_, setRow_alloc]
  · congr 3
    rw [madeCells_one]
    unfold lend1
    congr 2
    rw [List.length_map, List.drop_replicate, show xs.length + 2 - xs.length = 2 by omega]
    rfl
  · intro h0
    have h0' : 0 < xs.length := by simpa using h0
    obtain ⟨b, off, rfl, hc⟩ := hx.get h0'
    refine ⟨⟨b, off, none⟩, rfl, fun j v hj => ?_⟩
    have hjl : j < xs.length := by
      have := (List.getElem?_eq_some_iff.1 hj).1
      simpa using this
    have e := cell_alloc (hc j hjl) (.cells (madeCells #[.int .i64 0] (xs.length + 2)) elem)
    simp [hjl] at hj
    subst hj
    rw [addr_add]
    simpa [hjl] using e
  · intro v hv
    simp at hv
    obtain ⟨a, _, rfl⟩ := hv
    rfl

end Go.Scout
