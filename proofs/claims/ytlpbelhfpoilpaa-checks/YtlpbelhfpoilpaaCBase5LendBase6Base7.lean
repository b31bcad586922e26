import Derived.Laws.CopyOwn
import Derived.Deep.OwnRows
import Derived.Test.YtlpbelhfpoilpaaProg
import Derived.Test.YtlpbelhfpoilpaaCBaseBase2Base3Base4
set_option linter.all false
namespace Go.Scout
open Go.RowKit

theorem heap_alloc_new (w : World) (o : Obj) : (w.alloc o).heap[w.heap.size]? = some o := by
  show (w.heap.push o)[w.heap.size]? = _
  simp

theorem setRow_alloc (w : World) (c cs : Array Value) (t : TypeId) : (w.alloc (.cells c t)).setRow w.heap.size cs = w.alloc (.cells cs t) := by
  unfold World.setRow World.alloc
  simp only [World.mk.injEq, and_true]
  apply Array.ext_getElem?
  intro i
  rw [Array.getElem?_modify, Array.getElem?_push, Array.getElem?_push]
  by_cases h : i = w.heap.size
  · subst h
    simp
  · have : ¬ w.heap.size = i := fun e => h e.symm
    simp [h, this]

theorem setCell_alloc (w : World) (c : Array Value) (t : TypeId) (i : Nat) (v : Value) : (w.alloc (.cells c t)).setCell ⟨w.heap.size, i, none⟩ v = w.alloc (.cells (c.setIfInBounds i v) t) := by
  rw [setCell_eq_setRow (w.alloc (.cells c t)) w.heap.size i c t (0, 0) v (heap_alloc_new w _), setRow_alloc]

theorem addr_add (b off j : Nat) : (⟨b, off, none⟩ : Addr).add j = ⟨b, off + j, none⟩ := by unfold Addr.add; split <;> simp_all

/-- copy of elements of whatever size to the head of a row: all is read before anything is written. -/
theorem run_copy_wide {P : Program} (w : World) (dT sT ty elem : TypeId) (size g dLen dCap : Nat) (sp : Option Addr) (sLen sCap : Nat) (cur : Array Value) (t : TypeId) (cs : List Value)
    (hu : P.underlying dT = some (.slice elem)) (hs : (P.info? elem).map (·.size) = some size) (hg : w.heap[g]? = some (.cells cur t (0, 0))) (hle : sLen ≤ dLen) (hn : cs.length = sLen * size)
    (hsrc : 0 < cs.length → ∃ a, sp = some a ∧ ∀ j v, cs[j]? = some v → w.cell? (a.add j) = some v) (hfit : cs.length ≤ cur.size) (h1 : ∀ v ∈ cs, v.oneCell' = true) :
    (Builtin.copy_ #[dT, sT] ty #[.slice (some ⟨g, 0, none⟩) dLen dCap, .slice sp sLen sCap]).run P w = .ok (goInt sLen) (w.setRow g (cs ++ cur.toList.drop cs.length).toArray) := by
  have hst := run_storeCells_at P g 0 t cs 0 cur w hg (by simpa using hfit) h1
  have hmin : Nat.min sLen dLen = sLen := Nat.min_eq_left hle
  cases hq : P.info? elem with
  | none => simp [hq] at hs
  | some i =>
    have hi : i.size = size := by simpa [hq] using hs
    by_cases h0 : cs.length = 0
    · obtain rfl : cs = [] := List.eq_nil_of_length_eq_zero h0
      have hself : w.setRow g cur = w := setRow_self w g cur t (0, 0) hg
      have hl : ∀ (x : Addr), (loadCells x (sLen * size)).run P w = .ok #[] w := fun x => by
        rw [← hn]
        simpa using run_loadCells_list (P := P) w x [] (by simp)
      cases sp <;> simp [Builtin.copy_, run_underlying hu, Builtin.lenOf, Builtin.firstCells, sizeOf, typeInfo, hq, hi, hmin, storeCells, hl, hself]
    · obtain ⟨a, rfl, hc⟩ := hsrc (by omega)
      have hl := run_loadCells_list (P := P) w a cs hc
      rw [hn] at hl
      simp [Builtin.copy_, run_underlying hu, Builtin.lenOf, Builtin.firstCells, sizeOf, typeInfo, hq, hi, hmin, hl, hst]

theorem wpList_copy_wide {P : Program} {w : World} {ops : Array Oper} {rest : List Oper} {o : Oper} {a : Act} {Q : Exit → Act → World → Prop} (hgd : o.guard = none) (d s : Operand) (dT sT : TypeId)
    (ho : o.op = .call { callee := .builtin .copy, args := #[d, s], argTypes := #[dT, sT] }) (elem : TypeId) (size : Nat) (hu : P.underlying dT = some (.slice elem)) (hs : (P.info? elem).map (·.size) = some size)
    (g dLen dCap : Nat) (sp : Option Addr) (sLen sCap : Nat) (hd : a.eval d = .slice (some ⟨g, 0, none⟩) dLen dCap) (hsv : a.eval s = .slice sp sLen sCap)
    (cur : Array Value) (t : TypeId) (cs : List Value) (hg : w.heap[g]? = some (.cells cur t (0, 0))) (hle : sLen ≤ dLen) (hn : cs.length = sLen * size)
    (hsrc : 0 < cs.length → ∃ a, sp = some a ∧ ∀ j v, cs[j]? = some v → w.cell? (a.add j) = some v) (hfit : cs.length ≤ cur.size) (h1 : ∀ v ∈ cs, v.oneCell' = true)
    (h : wpList P ops Q rest (a.put o.dst (goInt sLen)) (w.setRow g (cs ++ cur.toList.drop cs.length).toArray)) : wpList P ops Q (o :: rest) a w := by
  refine wpList_plain hgd fun K hK => ?_
  have hrun := run_copy_wide (P := P) w dT sT o.type elem size g dLen dCap sp sLen sCap cur t cs hu hs hg hle hn hsrc hfit h1
  unfold Oper.wp
  simp [execOp, ho, resolve, invoke, builtin, hd, hsv, hrun, Result.andThen]
  exact hK _ _ h

/-- What lend makes: the numbers, and two marks behind them. -/
def lentCells (xs : List Int) : Array Value := (xs.map (Value.int .i64) ++ [Value.int .i64 77777, Value.int .i64 77777]).toArray

theorem madeCells_one (z : Value) (n : Nat) : madeCells #[z] n = (List.replicate n z).toArray := by
  apply Array.ext_getElem?
  intro i
  by_cases hi : i < n
  · simp [madeCells, hi]
    simp [Nat.mod_one]
  · simp [madeCells, hi]

/-- The rows that lend goes through: two zeros behind, then one mark, then two. -/
def lend1 (xs : List Int) : Array Value := (xs.map (Value.int .i64) ++ [Value.int .i64 0, Value.int .i64 0]).toArray
def lend2 (xs : List Int) : Array Value := (xs.map (Value.int .i64) ++ [Value.int .i64 77777, Value.int .i64 0]).toArray

theorem lend1_at (xs : List Int) : (lend1 xs)[xs.length]? = some (.int .i64 0) := by simp [lend1]
theorem lend2_at (xs : List Int) : (lend2 xs)[xs.length + 1]? = some (.int .i64 0) := by simp [lend2]
theorem lend1_set (xs : List Int) : (lend1 xs).setIfInBounds xs.length (.int .i64 77777) = lend2 xs := by
  simp only [lend1, lend2, List.setIfInBounds_toArray]
  rw [List.set_append_right _ _ (by simp)]
  simp
theorem lend2_set (xs : List Int) : (lend2 xs).setIfInBounds (xs.length + 1) (.int .i64 77777) = lentCells xs := by
  simp only [lend2, lentCells, List.setIfInBounds_toArray]
  rw [List.set_append_right _ _ (by simp)]
  simp

theorem setCell_alloc_lend1 (w : World) (xs : List Int) (t : TypeId) : (w.alloc (.cells (lend1 xs) t)).setCell ⟨w.heap.size, xs.length, none⟩ (.int .i64 77777) = w.alloc (.cells (lend2 xs) t) := by rw [setCell_alloc, lend1_set]
theorem setCell_alloc_lend2 (w : World) (xs : List Int) (t : TypeId) : (w.alloc (.cells (lend2 xs) t)).setCell ⟨w.heap.size, xs.length + 1, none⟩ (.int .i64 77777) = w.alloc (.cells (lentCells xs) t) := by rw [setCell_alloc, lend2_set]

theorem run_copy_lend {P : Program} (w : World) (dT elem : TypeId) (ao : Option Addr) (cap : Nat) (xs : List Int) (hx : IntsAt w ao xs) (hu : P.underlying dT = some (.slice elem)) (hs : (P.info? elem).map (·.size) = some 1) (ty : TypeId) :
    (Builtin.copy_ #[dT, dT] ty #[.slice (some ⟨w.heap.size, 0, none⟩) (xs.length + 2) (xs.length + 2), .slice ao xs.length cap]).run P (w.alloc (.cells (madeCells #[.int .i64 0] (xs.length + 2)) elem)) =
      .ok (goInt xs.length) (w.alloc (.cells (lend1 xs) elem)) := by
  rw [run_copy_wide (w.alloc (.cells (madeCells #[.int .i64 0] (xs.length + 2)) elem)) dT dT ty elem 1 w.heap.size (xs.length + 2) (xs.length + 2) ao xs.length cap (madeCells #[.int .i64 0] (xs.length + 2)) elem (xs.map (Value.int .i64)) hu hs
    (heap_alloc_new _ _) (by omega) (by simp) ?_ (by simp [size_madeCells]) ?_, setRow_alloc]
  · congr 3
    rw [madeCells_one]
    unfold lend1
    congr 2
    rw [List.length_map, List.drop_replicate, show xs.length + 2 - xs.length = 2 by omega]
    rfl
  · intro h0
    have h0' : 0 < xs.length := by simpa using h0
    obtain ⟨b, off, rfl, hc⟩ := hx.get h0'
    refine ⟨⟨b, off, none⟩, rfl, fun j v hj => ?_⟩
    have hjl : j < xs.length := by
      have := (List.getElem?_eq_some_iff.1 hj).1
      simpa using this
    have e := cell_alloc (hc j hjl) (.cells (madeCells #[.int .i64 0] (xs.length + 2)) elem)
    simp [hjl] at hj
    subst hj
    rw [addr_add]
    simpa [hjl] using e
  · intro v hv
    simp at hv
    obtain ⟨a, _, rfl⟩ := hv
    rfl

end Go.Scout

namespace Go.Proofs.Ytlpbelhfpoilpaa
open Go.RowKit Go.Scout

theorem Try.info3 : (Try.prog.info? 3).map (fun i => (i.zero, i.size, i.bytes)) = some (some (.int .i64 0), 1, 8) := by kernel_rfl
theorem Try.size3 : (Try.prog.info? 3).map (·.size) = some 1 := by kernel_rfl

set_option maxRecDepth 20000 in
set_option maxHeartbeats 4000000 in
theorem lend_any (ao : Option Addr) (cap : Nat) (xs : List Int) (w : World) (hx : IntsAt w ao xs) (hsz : xs.length * 8 ≤ 140737488351232) :
    Calls Try.prog 19 #[.slice ao xs.length cap] w fun e w' => e = .returned (.slice (some ⟨w.heap.size, 0, none⟩) xs.length (xs.length + 2)) ∧ w' = w.alloc (.cells (lentCells xs) 3) := by
  have hmk := run_make_row' (P := Try.prog) 23 3 (.int .i64 0) 8 Try.underlying23 Try.info3 rfl .i64 .i64 (xs.length + 2) (by omega) (by omega)
  have hcast : ((xs.length + 2 : Nat) : Int) = (xs.length : Int) + 2 := by omega
  rw [hcast] at hmk
  have hcp := fun ty => run_copy_lend (P := Try.prog) w 23 3 ao cap xs hx Try.underlying23 Try.size3 ty
  have hs1 := setCell_alloc_lend1 w xs 3
  have hs2 := setCell_alloc_lend2 w xs 3
  have ha1 := lend1_at xs
  have ha2 := lend2_at xs
  clear hcast hx
  go_enter Try.func19, Try.ntmps19
  go_wp2
  go_ret
  exact ⟨rfl, rfl⟩

end Go.Proofs.Ytlpbelhfpoilpaa

namespace Go.Scout
open Go.RowKit

/-! Rows of elements of several cells. -/

theorem length_flat {α : Type} (f : α → List Value) (s : Nat) (hf : ∀ x, (f x).length = s) : ∀ xs : List α, (xs.flatMap f).length = xs.length * s
  | [] => by simp
  | x :: xs => by
    rw [List.flatMap_cons, List.length_append, hf, length_flat f s hf xs, List.length_cons, Nat.add_mul, Nat.one_mul, Nat.add_comm]

theorem flat_at {α : Type} (f : α → List Value) (s : Nat) (hf : ∀ x, (f x).length = s) (z : α) : ∀ (xs : List α) (rest : List Value) (i j : Nat), i < xs.length → j < s → (xs.flatMap f ++ rest)[i * s + j]? = (f (xs.getD i z))[j]?
  | [], _, i, _, hi, _ => absurd hi (by simp)
  | x :: xs, rest, 0, j, _, hj => by
    rw [List.flatMap_cons, List.append_assoc, Nat.zero_mul, Nat.zero_add, List.getElem?_append_left (by rw [hf]; exact hj)]
    rfl
  | x :: xs, rest, i + 1, j, hi, hj => by
    have ih := flat_at f s hf z xs rest i j (by simpa using hi) hj
    rw [List.flatMap_cons, List.append_assoc, List.getElem?_append_right (by rw [hf, Nat.add_mul]; omega), hf]
    rw [show (i + 1) * s + j - s = i * s + j by rw [Nat.add_mul]; omega, ih]
    rfl

theorem flat_tail {α : Type} (f : α → List Value) (s : Nat) (hf : ∀ x, (f x).length = s) (xs : List α) (rest : List Value) (j : Nat) : (xs.flatMap f ++ rest)[xs.length * s + j]? = rest[j]? := by
  have hl := length_flat f s hf xs
  rw [List.getElem?_append_right (by omega), hl]
  congr 1
  omega

theorem flat_set {α : Type} (f : α → List Value) (s : Nat) (hf : ∀ x, (f x).length = s) (xs : List α) (rest : List Value) (j : Nat) (v : Value) : (xs.flatMap f ++ rest).set (xs.length * s + j) v = xs.flatMap f ++ rest.set j v := by
  have hl := length_flat f s hf xs
  rw [List.set_append_right _ _ (by omega), hl]
  congr 2
  omega

theorem made_drop (z : Array Value) (s n : Nat) (hs : z.size = s) (_h0 : 0 < s) : (madeCells z ((n + 2) * s)).toList.drop (n * s) = z.toList ++ z.toList := by
  apply List.ext_getElem?
  intro i
  rw [List.getElem?_drop]
  unfold madeCells
  rw [Array.toList_map, Array.toList_range, List.getElem?_map]
  have e2 : (n + 2) * s = n * s + 2 * s := by rw [Nat.add_mul]
  have hmod : ∀ i, (n * s + i) % s = i % s := fun i => by rw [Nat.add_comm, Nat.add_mul_mod_self_right]
  by_cases hi : i < 2 * s
  · rw [List.getElem?_range (by omega), Option.map_some, hs, hmod]
    by_cases h1 : i < s
    · rw [List.getElem?_append_left (by simpa [hs] using h1), Nat.mod_eq_of_lt h1]
      rw [getElem!_pos z i (by omega)]
      simp [hs, h1]
    · rw [List.getElem?_append_right (by simp [hs]; omega)]
      have : i % s = i - s := by rw [Nat.mod_eq_sub_mod (by omega), Nat.mod_eq_of_lt (by omega)]
      rw [this, getElem!_pos z (i - s) (by omega)]
      simp [hs, show i - s < s by omega]
  · have h2 : ¬ n * s + i < (n + 2) * s := by omega
    simp [h2]
    rw [hs]
    omega

def CondD.vals (c : CondD) : List Value := [.bool c.not, .int .i64 c.op, .int .i64 c.left, .bool c.const, .int .i64 c.right]
def zc : List Value := [.bool false, .int .i64 0, .int .i64 0, .bool false, .int .i64 0]
def ic : List Value := [.bool false, .int .i64 77777, .int .i64 0, .bool false, .int .i64 0]
def conds1 (cs : List CondD) : Array Value := (cs.flatMap CondD.vals ++ (zc ++ zc)).toArray
def conds2 (cs : List CondD) : Array Value := (cs.flatMap CondD.vals ++ (ic ++ zc)).toArray
def lentConds (cs : List CondD) : Array Value := (cs.flatMap CondD.vals ++ (ic ++ ic)).toArray
theorem cvals_len (c : CondD) : c.vals.length = 5 := rfl

theorem conds1_at (cs : List CondD) : (conds1 cs)[cs.length * 5 + 1]? = some (.int .i64 0) := by
  unfold conds1
  rw [List.getElem?_toArray, flat_tail _ 5 cvals_len]
  rfl
theorem conds2_at (cs : List CondD) : (conds2 cs)[(cs.length + 1) * 5 + 1]? = some (.int .i64 0) := by
  unfold conds2
  rw [List.getElem?_toArray, show (cs.length + 1) * 5 + 1 = cs.length * 5 + 6 by omega, flat_tail _ 5 cvals_len]
  rfl
theorem conds1_set (cs : List CondD) : (conds1 cs).setIfInBounds (cs.length * 5 + 1) (.int .i64 77777) = conds2 cs := by
  unfold conds1 conds2
  rw [List.setIfInBounds_toArray, flat_set _ 5 cvals_len]
  rfl
theorem conds2_set (cs : List CondD) : (conds2 cs).setIfInBounds ((cs.length + 1) * 5 + 1) (.int .i64 77777) = lentConds cs := by
  unfold conds2 lentConds
  rw [List.setIfInBounds_toArray, show (cs.length + 1) * 5 + 1 = cs.length * 5 + 6 by omega, flat_set _ 5 cvals_len]
  rfl
theorem setCell_conds1 (w : World) (cs : List CondD) (t : TypeId) : (w.alloc (.cells (conds1 cs) t)).setCell ⟨w.heap.size, cs.length * 5 + 1, none⟩ (.int .i64 77777) = w.alloc (.cells (conds2 cs) t) := by rw [setCell_alloc, conds1_set]
theorem setCell_conds2 (w : World) (cs : List CondD) (t : TypeId) : (w.alloc (.cells (conds2 cs) t)).setCell ⟨w.heap.size, (cs.length + 1) * 5 + 1, none⟩ (.int .i64 77777) = w.alloc (.cells (lentConds cs) t) := by rw [setCell_alloc, conds2_set]

def tabVals (t : TableD) : List Value := [.int .i64 t.cols, .int .i64 t.rows, .int .i64 t.k0, .int .i64 t.k1, .int .i64 t.k2, .int .i64 t.k3]
def zt : List Value := [.int .i64 0, .int .i64 0, .int .i64 0, .int .i64 0, .int .i64 0, .int .i64 0]
def it : List Value := [.int .i64 77777, .int .i64 0, .int .i64 0, .int .i64 0, .int .i64 0, .int .i64 0]
def tabs1 (ts : List TableD) : Array Value := (ts.flatMap tabVals ++ (zt ++ zt)).toArray
def tabs2 (ts : List TableD) : Array Value := (ts.flatMap tabVals ++ (it ++ zt)).toArray
def lentTabs (ts : List TableD) : Array Value := (ts.flatMap tabVals ++ (it ++ it)).toArray
theorem tvals_len (t : TableD) : (tabVals t).length = 6 := rfl

theorem tabs1_at (ts : List TableD) : (tabs1 ts)[ts.length * 6]? = some (.int .i64 0) := by
  unfold tabs1
  rw [List.getElem?_toArray, show ts.length * 6 = ts.length * 6 + 0 by omega, flat_tail _ 6 tvals_len]
  rfl
theorem tabs2_at (ts : List TableD) : (tabs2 ts)[(ts.length + 1) * 6]? = some (.int .i64 0) := by
  unfold tabs2
  rw [List.getElem?_toArray, show (ts.length + 1) * 6 = ts.length * 6 + 6 by omega, flat_tail _ 6 tvals_len]
  rfl
theorem tabs1_set (ts : List TableD) : (tabs1 ts).setIfInBounds (ts.length * 6) (.int .i64 77777) = tabs2 ts := by
  unfold tabs1 tabs2
  rw [List.setIfInBounds_toArray, show ts.length * 6 = ts.length * 6 + 0 by omega, flat_set _ 6 tvals_len]
  rfl
theorem tabs2_set (ts : List TableD) : (tabs2 ts).setIfInBounds ((ts.length + 1) * 6) (.int .i64 77777) = lentTabs ts := by
  unfold tabs2 lentTabs
  rw [List.setIfInBounds_toArray, show (ts.length + 1) * 6 = ts.length * 6 + 6 by omega, flat_set _ 6 tvals_len]
  rfl

/-- A copy of n elements, of s cells each, into a new row of n + 2. -/
theorem run_copy_new {P : Program} (w : World) (dT elem : TypeId) (s : Nat) (z : Array Value) (ao : Option Addr) (n cap : Nat) (cs : List Value) (hs0 : 0 < s) (hz : z.size = s) (hn : cs.length = n * s)
    (hc : ∀ j, j < n * s → ∃ b off, ao = some ⟨b, off, none⟩ ∧ w.cell? ⟨b, off + j, none⟩ = cs[j]?) (h1 : ∀ v ∈ cs, v.oneCell' = true)
    (hu : P.underlying dT = some (.slice elem)) (hs : (P.info? elem).map (·.size) = some s) (ty : TypeId) :
    (Builtin.copy_ #[dT, dT] ty #[.slice (some ⟨w.heap.size, 0, none⟩) (n + 2) (n + 2), .slice ao n cap]).run P (w.alloc (.cells (madeCells z ((n + 2) * s)) elem)) =
      .ok (goInt n) (w.alloc (.cells (cs ++ (z.toList ++ z.toList)).toArray elem)) := by
  have hsz : (madeCells z ((n + 2) * s)).size = (n + 2) * s := size_madeCells z _
  rw [run_copy_wide (w.alloc (.cells (madeCells z ((n + 2) * s)) elem)) dT dT ty elem s w.heap.size (n + 2) (n + 2) ao n cap (madeCells z ((n + 2) * s)) elem cs hu hs
    (heap_alloc_new _ _) (by omega) hn ?_ (by rw [hsz, hn, Nat.add_mul]; omega) h1, setRow_alloc, hn, made_drop z s n hz hs0]
  intro h0
  obtain ⟨b, off, rfl, _⟩ := hc 0 (by omega)
  refine ⟨⟨b, off, none⟩, rfl, fun j v hj => ?_⟩
  have hjl : j < n * s := by
    have := (List.getElem?_eq_some_iff.1 hj).1
    omega
  obtain ⟨b', off', e, hcell⟩ := hc j hjl
  cases e
  rw [addr_add]
  exact cell_alloc (hcell.trans hj) _

end Go.Scout

namespace Go.Scout
open Go.RowKit

theorem conds_src {w : World} {ao : Option Addr} {cs : List CondD} (h : CondsAt w ao cs) : ∀ j, j < cs.length * 5 → ∃ b off, ao = some ⟨b, off, none⟩ ∧ w.cell? ⟨b, off + j, none⟩ = (cs.flatMap CondD.vals)[j]? := by
  intro j hj
  obtain ⟨b, off, e, c0, c1, c2, c3, c4⟩ := h.2 (j / 5) (by omega)
  refine ⟨b, off, e, ?_⟩
  have hf := flat_at CondD.vals 5 cvals_len cz cs [] (j / 5) (j % 5) (by omega) (by omega)
  rw [List.append_nil, show j / 5 * 5 + j % 5 = j by omega] at hf
  rw [hf]
  generalize hd : cs.getD (j / 5) cz = d at *
  have hm : j % 5 < 5 := Nat.mod_lt _ (by omega)
  rcases (by omega : j % 5 = 0 ∨ j % 5 = 1 ∨ j % 5 = 2 ∨ j % 5 = 3 ∨ j % 5 = 4) with h5 | h5 | h5 | h5 | h5
  · rw [show off + j = off + j / 5 * 5 by omega, c0, h5]; rfl
  · rw [show off + j = off + j / 5 * 5 + 1 by omega, c1, h5]; rfl
  · rw [show off + j = off + j / 5 * 5 + 2 by omega, c2, h5]; rfl
  · rw [show off + j = off + j / 5 * 5 + 3 by omega, c3, h5]; rfl
  · rw [show off + j = off + j / 5 * 5 + 4 by omega, c4, h5]; rfl

theorem conds_one (cs : List CondD) : ∀ v ∈ cs.flatMap CondD.vals, v.oneCell' = true := by
  intro v hv
  rw [List.mem_flatMap] at hv
  obtain ⟨c, _, hc⟩ := hv
  simp only [CondD.vals, List.mem_cons, List.mem_nil_iff, or_false] at hc
  rcases hc with rfl | rfl | rfl | rfl | rfl <;> rfl

theorem tabs_src {w : World} {ao : Option Addr} {ts : List TableD} (h : TablesAt w ao ts) : ∀ j, j < ts.length * 6 → ∃ b off, ao = some ⟨b, off, none⟩ ∧ w.cell? ⟨b, off + j, none⟩ = (ts.flatMap tabVals)[j]? := by
  intro j hj
  obtain ⟨b, off, e, c0, c1, c2, c3, c4, c5⟩ := h.2 (j / 6) (by omega)
  refine ⟨b, off, e, ?_⟩
  have hf := flat_at tabVals 6 tvals_len tz ts [] (j / 6) (j % 6) (by omega) (by omega)
  rw [List.append_nil, show j / 6 * 6 + j % 6 = j by omega] at hf
  rw [hf]
  generalize hd : ts.getD (j / 6) tz = d at *
  have hm : j % 6 < 6 := Nat.mod_lt _ (by omega)
  rcases (by omega : j % 6 = 0 ∨ j % 6 = 1 ∨ j % 6 = 2 ∨ j % 6 = 3 ∨ j % 6 = 4 ∨ j % 6 = 5) with h5 | h5 | h5 | h5 | h5 | h5
  · rw [show off + j = off + j / 6 * 6 by omega, c0, h5]; rfl
  · rw [show off + j = off + j / 6 * 6 + 1 by omega, c1, h5]; rfl
  · rw [show off + j = off + j / 6 * 6 + 2 by omega, c2, h5]; rfl
  · rw [show off + j = off + j / 6 * 6 + 3 by omega, c3, h5]; rfl
  · rw [show off + j = off + j / 6 * 6 + 4 by omega, c4, h5]; rfl
  · rw [show off + j = off + j / 6 * 6 + 5 by omega, c5, h5]; rfl

theorem tabs_one (ts : List TableD) : ∀ v ∈ ts.flatMap tabVals, v.oneCell' = true := by
  intro v hv
  rw [List.mem_flatMap] at hv
  obtain ⟨c, _, hc⟩ := hv
  simp only [tabVals, List.mem_cons, List.mem_nil_iff, or_false] at hc
  rcases hc with rfl | rfl | rfl | rfl | rfl | rfl <;> rfl

/-- The block of a struct Given: its sixteen cells. -/
def GB (w : World) (G : Nat) (t : TypeId) (c : Array Value) : Prop := w.heap[G]? = some (.cells c t (0, 0))

theorem GB.cell {w : World} {G : Nat} {t : TypeId} {c : Array Value} (h : GB w G t c) (i : Nat) : w.cell? ⟨G, i, none⟩ = c[i]? := by
  unfold GB at h
  simp [World.cell?, h]
theorem GB.frozen {w : World} {G : Nat} {t : TypeId} {c : Array Value} (h : GB w G t c) (i : Nat) : w.frozen? ⟨G, i, none⟩ = false := by
  unfold GB at h
  simp [World.frozen?, h]
theorem GB.lt {w : World} {G : Nat} {t : TypeId} {c : Array Value} (h : GB w G t c) : G < w.heap.size := by
  unfold GB at h
  exact (Array.getElem?_eq_some_iff.1 h).1
theorem GB.set {w : World} {G : Nat} {t : TypeId} {c : Array Value} (h : GB w G t c) (i : Nat) (v : Value) : GB (w.setCell ⟨G, i, none⟩ v) G t (c.setIfInBounds i v) := by
  unfold GB at *
  rw [setCell_eq_setRow w G i c t (0, 0) v h]
  exact setRow_heap w G c _ t _ h
theorem GB.of {w w' : World} {G : Nat} {t : TypeId} {c : Array Value} (h : GB w G t c) (e : w'.heap[G]? = w.heap[G]?) : GB w' G t c := by
  unfold GB at *
  rw [e]
  exact h
theorem heap_setCell {w : World} {a : Addr} {v : Value} {k : Nat} (h : k ≠ a.block) : (w.setCell a v).heap[k]? = w.heap[k]? := Below.heap_setCell _ _ _ _ h
theorem heap_alloc {w : World} {o : Obj} {k : Nat} (h : k < w.heap.size) : (w.alloc o).heap[k]? = w.heap[k]? := Below.heap_alloc _ _ _ h

/-- How the loop of 'clauses' stands when k clauses are lent. -/
structure CState (w00 w0 wr : World) (G tG tC tA tS n : Nat) (gc : Value → Value → Array Value) (ls : List ClauseV) (k : Nat) (v : Value) (A : Nat → Nat) : Prop where
  bel : Below w00.heap.size w00 wr
  oth : ∀ j, j < w0.heap.size → j ≠ G → wr.heap[j]? = w0.heap[j]?
  siz : w0.heap.size < wr.heap.size
  g : GB wr G tG (gc (.slice (some ⟨w0.heap.size, 0, none⟩) (n + 2) (n + 2)) v)
  row : wr.rowIs w0.heap.size tC (n + 2) (fun i => if i < k then .slice (some ⟨A i, 0, none⟩) (ls.getD i lz).cs.length ((ls.getD i lz).cs.length + 2) else .slice none 0 0)
  al : ∀ i, i < k → w0.heap.size < A i ∧ GB wr (A i) tS (lentConds (ls.getD i lz).cs)
  own : wr.ownsRow w0.heap.size tA 1 v k ((List.range k).map fun i => .slice (some ⟨A i, 0, none⟩) ((ls.getD i lz).cs.length + 2) ((ls.getD i lz).cs.length + 2))

/-- What is known behind the append of a round. -/
structure CMid (w00 w0 wr w1 : World) (G tG tC tS n : Nat) (gc : Value → Value → Array Value) (ls : List ClauseV) (k : Nat) (v v' : Value) (A : Nat → Nat) (cs : List CondD) : Prop where
  bel : Below w00.heap.size w00 w1
  oth : ∀ j, j < w0.heap.size → j ≠ G → w1.heap[j]? = w0.heap[j]?
  siz : w0.heap.size < w1.heap.size
  siz' : w0.heap.size < wr.heap.size
  g : GB w1 G tG (gc (.slice (some ⟨w0.heap.size, 0, none⟩) (n + 2) (n + 2)) v)
  row : w1.rowIs w0.heap.size tC (n + 2) (fun i => if i < k then .slice (some ⟨A i, 0, none⟩) (ls.getD i lz).cs.length ((ls.getD i lz).cs.length + 2) else .slice none 0 0)
  al : ∀ i, i < k → w0.heap.size < A i ∧ GB w1 (A i) tS (lentConds (ls.getD i lz).cs)
  new : GB w1 wr.heap.size tS (lentConds cs)
  sh : ∃ g cap, v' = .slice (some ⟨g, 0, none⟩) (k + 1) cap

theorem CState.mid {w00 w0 wr w1 : World} {G tG tC tA tS n : Nat} {gc : Value → Value → Array Value} {ls : List ClauseV} {k : Nat} {v v' : Value} {A : Nat → Nat} {cs : List CondD} {Y : Obj} {xs : List Value}
    (h : CState w00 w0 wr G tG tC tA tS n gc ls k v A) (hAC : tA ≠ tC) (hAS : tA ≠ tS) (hG : G < w0.heap.size) (hGo : w00.heap.size ≤ G)
    (hown : w1.ownsRow w0.heap.size tA 1 v' (k + 1) xs) (_hx : xs.length = k + 1) (hgr : ((wr.alloc (.cells (lentConds cs) tS)).alloc Y).grownBy w1 v.ownBlock) :
    CMid w00 w0 wr w1 G tG tC tS n gc ls k v v' A cs := by
  have hlt := h.own.lt
  have hsz := h.siz
  have hblk : ∀ j, j < wr.heap.size → some j ≠ v.ownBlock → w1.heap[j]? = wr.heap[j]? := fun j hj hne => by
    rw [hgr.block j (by simp; omega) hne, heap_alloc (by simp; omega), heap_alloc hj]
  have hty : ∀ j c t, wr.heap[j]? = some (.cells c t (0, 0)) → t ≠ tA → some j ≠ v.ownBlock := fun j c t hj ht he => by
    rcases h.own.2 with ⟨rfl, _⟩ | ⟨g, cap, cur, rfl, _, hh, _⟩
    · simp [Value.ownBlock] at he
    · simp [Value.ownBlock] at he
      subst he
      rw [hh] at hj
      simp at hj
      exact ht hj.2.symm
  have hlow : ∀ j, j < w0.heap.size → some j ≠ v.ownBlock := fun j hj he => by
    have := hlt j he.symm
    omega
  refine ⟨?_, fun j hj hne => ?_, ?_, hsz, ?_, ?_, fun i hi => ⟨(h.al i hi).1, ?_⟩, ?_, ?_⟩
  · have b1 := (h.bel.alloc h.bel.size (.cells (lentConds cs) tS))
    have b2 := b1.alloc b1.size Y
    exact b2.grown hgr (by have := h.bel.size; simp; omega) (fun j hj => by have := hlt j hj; omega)
  · rw [hblk j (by omega) (hlow j hj)]
    exact h.oth j hj hne
  · have := hgr.size
    simp at this
    omega
  · exact h.g.of (hblk G (by omega) (hlow G hG))
  · obtain ⟨c, hc, hs, hv⟩ := h.row
    exact ⟨c, (hblk _ hsz (hty _ _ _ hc (Ne.symm hAC))).trans hc, hs, hv⟩
  · have hA := (h.al i hi).2
    exact hA.of (hblk _ hA.lt (hty _ _ _ hA (Ne.symm hAS)))
  · show w1.heap[wr.heap.size]? = _
    rw [hgr.block wr.heap.size (by simp; omega) (fun he => by have := hlt _ he.symm; omega), heap_alloc (by simp), heap_alloc_new]
  · rcases hown.2 with ⟨_, hnil⟩ | ⟨g, cap, cur, hv, _⟩
    · omega
    · exact ⟨g, cap, hv⟩

theorem CMid.next {w00 w0 wr w1 : World} {G tG tC tA tS n : Nat} {gc : Value → Value → Array Value} {ls : List ClauseV} {k : Nat} {v v' : Value} {A : Nat → Nat} {cs : List CondD}
    (M : CMid w00 w0 wr w1 G tG tC tS n gc ls k v v' A cs) (hgc : ∀ x y y', (gc x y).setIfInBounds 12 y' = gc x y') (hG : G < w0.heap.size) (hGo : w00.heap.size ≤ G) (hcs : (ls.getD k lz).cs = cs)
    (hAC : tA ≠ tC) (_hAS : tA ≠ tS) (_hAG : tA ≠ tG)
    (hown : w1.ownsRow w0.heap.size tA 1 v' (k + 1) (((List.range k).map fun i => Value.slice (some ⟨A i, 0, none⟩) ((ls.getD i lz).cs.length + 2) ((ls.getD i lz).cs.length + 2)) ++ [Value.slice (some ⟨wr.heap.size, 0, none⟩) (cs.length + 2) (cs.length + 2)])) :
    CState w00 w0 ((w1.setCell ⟨G, 12, none⟩ v').setCell ⟨w0.heap.size, k, none⟩ (.slice (some ⟨wr.heap.size, 0, none⟩) cs.length (cs.length + 2))).drew G tG tC tA tS n gc ls (k + 1) v' (fun i => if i = k then wr.heap.size else A i) := by
  have hs' := M.siz'
  have hs1 := M.siz
  have hAne : ∀ i, i < k → A i ≠ wr.heap.size ∨ True := fun _ _ => .inr trivial
  have hblk : ∀ j, j ≠ G → j ≠ w0.heap.size → (((w1.setCell ⟨G, 12, none⟩ v').setCell ⟨w0.heap.size, k, none⟩ (.slice (some ⟨wr.heap.size, 0, none⟩) cs.length (cs.length + 2))).drew).heap[j]? = w1.heap[j]? := fun j h1 h2 => by
    show ((w1.setCell ⟨G, 12, none⟩ v').setCell ⟨w0.heap.size, k, none⟩ _).heap[j]? = _
    rw [heap_setCell h2, heap_setCell h1]
  refine ⟨?_, fun j hj hne => ?_, ?_, ?_, ?_, fun i hi => ?_, ?_⟩
  · have hb0 := M.bel.size
    exact ((M.bel.setCell (p := ⟨G, 12, none⟩) hGo v').setCell (p := ⟨w0.heap.size, k, none⟩) (by show w00.heap.size ≤ w0.heap.size; omega) _).drew
  · rw [hblk j hne (by omega)]
    exact M.oth j hj hne
  · simpa using hs1
  · have h1 := M.g.set 12 v'
    rw [hgc] at h1
    exact h1.of (by show ((w1.setCell ⟨G, 12, none⟩ v').setCell ⟨w0.heap.size, k, none⟩ _).heap[G]? = _; rw [heap_setCell (by show G ≠ w0.heap.size; omega)])
  · have h1 := (M.row.setOther (a := ⟨G, 12, none⟩) (by show w0.heap.size ≠ G; omega) v').set k (.slice (some ⟨wr.heap.size, 0, none⟩) cs.length (cs.length + 2))
    refine (h1.drew).congr fun i hi => ?_
    by_cases hik : i = k
    · subst hik
      simp only [if_true, show i < i + 1 by omega]
      rw [hcs]
    · simp only [hik, if_false]
      by_cases h2 : i < k
      · rw [if_pos h2, if_pos (by omega)]
      · rw [if_neg h2, if_neg (by omega)]
  · by_cases hik : i = k
    · subst hik
      simp only [if_true]
      refine ⟨hs', ?_⟩
      rw [hcs]
      exact M.new.of (hblk _ (by omega) (by omega))
    · simp only [hik, if_false]
      have hA := M.al i (by omega)
      exact ⟨hA.1, hA.2.of (hblk _ (by omega) (by omega))⟩
  · have e : ((List.range (k + 1)).map fun i => Value.slice (some ⟨(fun i => if i = k then wr.heap.size else A i) i, 0, none⟩) ((ls.getD i lz).cs.length + 2) ((ls.getD i lz).cs.length + 2)) =
        (((List.range k).map fun i => Value.slice (some ⟨A i, 0, none⟩) ((ls.getD i lz).cs.length + 2) ((ls.getD i lz).cs.length + 2)) ++ [Value.slice (some ⟨wr.heap.size, 0, none⟩) (cs.length + 2) (cs.length + 2)]) := by
      rw [List.range_succ, List.map_append]
      congr 1
      · apply List.map_congr_left
        intro i hi
        have : i < k := List.mem_range.1 hi
        have hne : ¬ i = k := by omega
        simp [hne]
      · simp [← hcs]
    rw [e]
    have n1 : v'.ownBlock ≠ some G := fun he => by have := hown.lt _ he; omega
    have n2 : v'.ownBlock ≠ some w0.heap.size := fun he => by
      obtain ⟨c, hc, _⟩ := M.row
      rcases hown.2 with ⟨rfl, _⟩ | ⟨g, cap, cur, rfl, _, hh, _⟩
      · simp [Value.ownBlock] at he
      · simp [Value.ownBlock] at he
        subst he
        rw [hh] at hc
        simp at hc
        exact hAC hc.2
    exact (ownsRow_setCell_other (ownsRow_setCell_other hown n1 v') n2 _).drew

end Go.Scout

