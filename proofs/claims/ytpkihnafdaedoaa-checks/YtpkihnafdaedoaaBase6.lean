import Derived.Test.YtpkihnafdaedoaaBase5
namespace Go.Scout
open Go.RowKit

/-! Rows of elements of several cells. -/

theorem length_flat {α : Type} (f : α → List Value) (s : Nat) (hf : ∀ x, (f x).length = s) : ∀ xs : List α, (xs.flatMap f).length = xs.length * s
  | [] => by simp
  | x :: xs => by
    rw [List.flatMap_cons, List.length_append, hf, length_flat f s hf xs, List.length_cons, Nat.add_mul, Nat.one_mul, Nat.add_comm]

theorem flat_at {α : Type} (f : α → List Value) (s : Nat) (hf : ∀ x, (f x).length = s) (z : α) : ∀ (xs : List α) (rest : List Value) (i j : Nat), i < xs.length → j < s → (xs.flatMap f ++ rest)[i * s + j]? = (f (xs.getD i z))[j]?
  | [], _, i, _, hi, _ => absurd hi (by simp)
  | x :: xs, rest, 0, j, _, hj => by
    rw [List.flatMap_cons, List.append_assoc, Nat.zero_mul, Nat.zero_add, List.getElem?_append_left (by rw [hf]; exact hj)]
    rfl
  | x :: xs, rest, i + 1, j, hi, hj => by
    have ih := flat_at f s hf z xs rest i j (by simpa using hi) hj
    rw [List.flatMap_cons, List.append_assoc, List.getElem?_append_right (by rw [hf, Nat.add_mul]; omega), hf]
    rw [show (i + 1) * s + j - s = i * s + j by rw [Nat.add_mul]; omega, ih]
    rfl

theorem flat_tail {α : Type} (f : α → List Value) (s : Nat) (hf : ∀ x, (f x).length = s) (xs : List α) (rest : List Value) (j : Nat) : (xs.flatMap f ++ rest)[xs.length * s + j]? = rest[j]? := by
  have hl := length_flat f s hf xs
  rw [List.getElem?_append_right (by omega), hl]
  congr 1
  omega

theorem flat_set {α : Type} (f : α → List Value) (s : Nat) (hf : ∀ x, (f x).length = s) (xs : List α) (rest : List Value) (j : Nat) (v : Value) : (xs.flatMap f ++ rest).set (xs.length * s + j) v = xs.flatMap f ++ rest.set j v := by
  have hl := length_flat f s hf xs
  rw [List.set_append_right _ _ (by omega), hl]
  congr 2
  omega

theorem made_drop (z : Array Value) (s n : Nat) (hs : z.size = s) (_h0 : 0 < s) : (madeCells z ((n + 2) * s)).toList.drop (n * s) = z.toList ++ z.toList := by
  apply List.ext_getElem?
  intro i
  rw [List.getElem?_drop]
  unfold madeCells
  rw [Array.toList_map, Array.toList_range, List.getElem?_map]
  have e2 : (n + 2) * s = n * s + 2 * s := by rw [Nat.add_mul]
  have hmod : ∀ i, (n * s + i) % s = i % s := fun i => by rw [Nat.add_comm, Nat.add_mul_mod_self_right]
  by_cases hi : i < 2 * s
  · rw [List.getElem?_range (by omega), Option.map_some, hs, hmod]
    by_cases h1 : i < s
    · rw [List.getElem?_append_left (by simpa [hs] using h1), Nat.mod_eq_of_lt h1]
      rw [getElem!_pos z i (by omega)]
      simp [hs, h1]
    · rw [List.getElem?_append_right (by simp [hs]; omega)]
      have : i % s = i - s := by rw [Nat.mod_eq_sub_mod (by omega), Nat.mod_eq_of_lt (by omega)]
      rw [this, getElem!_pos z (i - s) (by omega)]
      simp [hs, show i - s < s by omega]
  · have h2 : ¬ n * s + i < (n + 2) * s := by omega
    simp [h2]
    rw [hs]
    omega

def CondD.vals (c : CondD) : List Value := [.bool c.not, .int .i64 c.op, .int .i64 c.left, .bool c.const, .int .i64 c.right]
def zc : List Value := [.bool false, .int .i64 0, .int .i64 0, .bool false, .int .i64 0]
def ic : List Value := [.bool false, .int .i64 77777, .int .i64 0, .bool false, .int .i64 0]
def conds1 (cs : List CondD) : Array Value := (cs.flatMap CondD.vals ++ (zc ++ zc)).toArray
def conds2 (cs : List CondD) : Array Value := (cs.flatMap CondD.vals ++ (ic ++ zc)).toArray
def lentConds (cs : List CondD) : Array Value := (cs.flatMap CondD.vals ++ (ic ++ ic)).toArray
theorem cvals_len (c : CondD) : c.vals.length = 5 := rfl

theorem conds1_at (cs : List CondD) : (conds1 cs)[cs.length * 5 + 1]? = some (.int .i64 0) := by
  unfold conds1
  rw [List.getElem?_toArray, flat_tail _ 5 cvals_len]
  rfl
theorem conds2_at (cs : List CondD) : (conds2 cs)[(cs.length + 1) * 5 + 1]? = some (.int .i64 0) := by
  unfold conds2
  rw [List.getElem?_toArray, show (cs.length + 1) * 5 + 1 = cs.length * 5 + 6 by omega, flat_tail _ 5 cvals_len]
  rfl
theorem conds1_set (cs : List CondD) : (conds1 cs).setIfInBounds (cs.length * 5 + 1) (.int .i64 77777) = conds2 cs := by
  unfold conds1 conds2
  rw [List.setIfInBounds_toArray, flat_set _ 5 cvals_len]
  rfl
theorem conds2_set (cs : List CondD) : (conds2 cs).setIfInBounds ((cs.length + 1) * 5 + 1) (.int .i64 77777) = lentConds cs := by
  unfold conds2 lentConds
  rw [List.setIfInBounds_toArray, show (cs.length + 1) * 5 + 1 = cs.length * 5 + 6 by omega, flat_set _ 5 cvals_len]
  rfl
theorem setCell_conds1 (w : World) (cs : List CondD) (t : TypeId) : (w.alloc (.cells (conds1 cs) t)).setCell ⟨w.heap.size, cs.length * 5 + 1, none⟩ (.int .i64 77777) = w.alloc (.cells (conds2 cs) t) := by rw [setCell_alloc, conds1_set]
theorem setCell_conds2 (w : World) (cs : List CondD) (t : TypeId) : (w.alloc (.cells (conds2 cs) t)).setCell ⟨w.heap.size, (cs.length + 1) * 5 + 1, none⟩ (.int .i64 77777) = w.alloc (.cells (lentConds cs) t) := by rw [setCell_alloc, conds2_set]

def tabVals (t : TableD) : List Value := [.int .i64 t.cols, .int .i64 t.rows, .int .i64 t.k0, .int .i64 t.k1, .int .i64 t.k2, .int .i64 t.k3]
def zt : List Value := [.int .i64 0, .int .i64 0, .int .i64 0, .int .i64 0, .int .i64 0, .int .i64 0]
def it : List Value := [.int .i64 77777, .int .i64 0, .int .i64 0, .int .i64 0, .int .i64 0, .int .i64 0]
def tabs1 (ts : List TableD) : Array Value := (ts.flatMap tabVals ++ (zt ++ zt)).toArray
def tabs2 (ts : List TableD) : Array Value := (ts.flatMap tabVals ++ (it ++ zt)).toArray
def lentTabs (ts : List TableD) : Array Value := (ts.flatMap tabVals ++ (it ++ it)).toArray
theorem tvals_len (t : TableD) : (tabVals t).length = 6 := rfl

theorem tabs1_at (ts : List TableD) : (tabs1 ts)[ts.length * 6]? = some (.int .i64 0) := by
  unfold tabs1
  rw [List.getElem?_toArray, show ts.length * 6 = ts.length * 6 + 0 by omega, flat_tail _ 6 tvals_len]
  rfl
theorem tabs2_at (ts : List TableD) : (tabs2 ts)[(ts.length + 1) * 6]? = some (.int .i64 0) := by
  unfold tabs2
  rw [List.getElem?_toArray, show (ts.length + 1) * 6 = ts.length * 6 + 6 by omega, flat_tail _ 6 tvals_len]
  rfl
theorem tabs1_set (ts : List TableD) : (tabs1 ts).setIfInBounds (ts.length * 6) (.int .i64 77777) = tabs2 ts := by
  unfold tabs1 tabs2
  rw [List.setIfInBounds_toArray, show ts.length * 6 = ts.length * 6 + 0 by omega, flat_set _ 6 tvals_len]
  rfl
theorem tabs2_set (ts : List TableD) : (tabs2 ts).setIfInBounds ((ts.length + 1) * 6) (.int .i64 77777) = lentTabs ts := by
  unfold tabs2 lentTabs
  rw [List.setIfInBounds_toArray, show (ts.length + 1) * 6 = ts.length * 6 + 6 by omega, flat_set _ 6 tvals_len]
  rfl

/-- A copy of n elements, of s cells each, into a new row of n + 2. -/
theorem run_copy_new {P : Program} (w : World) (dT elem : TypeId) (s : Nat) (z : Array Value) (ao : Option Addr) (n cap : Nat) (cs : List Value) (hs0 : 0 < s) (hz : z.size = s) (hn : cs.length = n * s)
    (hc : ∀ j, j < n * s → ∃ b off, ao = some ⟨b, off, none⟩ ∧ w.cell? ⟨b, off + j, none⟩ = cs[j]?) (h1 : ∀ v ∈ cs, v.oneCell' = true)
    (hu : P.underlying dT = some (.slice elem)) (hs : (P.info? elem).map (·.size) = some s) (ty : TypeId) :
    (Builtin.copy_ #[dT, dT] ty #[.slice (some ⟨w.heap.size, 0, none⟩) (n + 2) (n + 2), .slice ao n cap]).run P (w.alloc (.cells (madeCells z ((n + 2) * s)) elem)) =
      .ok (goInt n) (w.alloc (.cells (cs ++ (z.toList ++ z.toList)).toArray elem)) := by
  have hsz : (madeCells z ((n + 2) * s)).size = (n + 2) * s := size_madeCells z _
  rw [run_copy_wide (w.alloc (.cells (madeCells z ((n + 2) * s)) elem)) dT dT ty elem s w.heap.size (n + 2) (n + 2) ao n cap (madeCells z ((n + 2) * s)) elem cs hu hs
    (heap_alloc_new _ _) (by omega) hn ?_ (by rw [hsz, hn, Nat.add_mul]; omega) h1, setRow_alloc, hn, made_drop z s n hz hs0]
  intro h0
  obtain ⟨b, off, rfl, _⟩ := hc 0 (by omega)
  refine ⟨⟨b, off, none⟩, rfl, fun j v hj => ?_⟩
  have hjl : j < n * s := by
    have := (List.getElem?_eq_some_iff.1 hj).1
    omega
  obtain ⟨b', off', e, hcell⟩ := hc j hjl
  cases e
  rw [addr_add]
  exact cell_alloc (hcell.trans hj) _

end Go.Scout
