import Derived.WalkKit
namespace Go.Scout
open Go.RowKit

theorem ret_bool {a b : Bool} (h : a = b) : Ending.returned (.bool a) = .returned (.bool b) := by rw [h]
theorem ret_int {k : IntKind} {a b : Int} (h : a = b) : Ending.returned (.int k a) = .returned (.int k b) := by rw [h]

/-- The cells behind a slice's address: n of them, told by f. -/
def CellsAt (w : World) (ao : Option Addr) (n : Nat) (f : Nat → Value) : Prop :=
  ∀ i, i < n → ∃ b off, ao = some ⟨b, off, none⟩ ∧ w.cell? ⟨b, off + i, none⟩ = some (f i)

theorem CellsAt.get {w : World} {ao : Option Addr} {n : Nat} {f : Nat → Value} (h : CellsAt w ao n f) {i : Nat} (hi : i < n) :
    ∃ b off, ao = some ⟨b, off, none⟩ ∧ ∀ j, j < n → w.cell? ⟨b, off + j, none⟩ = some (f j) := by
  obtain ⟨b, off, rfl, _⟩ := h i hi
  refine ⟨b, off, rfl, fun j hj => ?_⟩
  obtain ⟨b', off', e, h'⟩ := h j hj
  cases e
  exact h'

/-- A list of numbers. -/
def IntsAt (w : World) (ao : Option Addr) (xs : List Int) : Prop :=
  xs.length ≤ 1152921504606846976 ∧ CellsAt w ao xs.length (fun i => .int .i64 (xs.getD i 0))

theorem IntsAt.get {w : World} {ao : Option Addr} {xs : List Int} (h : IntsAt w ao xs) {i : Nat} (hi : i < xs.length) :
    ∃ b off, ao = some ⟨b, off, none⟩ ∧ ∀ j, j < xs.length → w.cell? ⟨b, off + j, none⟩ = some (.int .i64 (xs.getD j 0)) :=
  CellsAt.get h.2 hi

/-- What is known of a table. -/
structure TableD where
  cols : Int
  rows : Int
  k0 : Int
  k1 : Int
  k2 : Int
  k3 : Int

def TableD.vals (t : TableD) : Array Value := #[.int .i64 t.cols, .int .i64 t.rows, .int .i64 t.k0, .int .i64 t.k1, .int .i64 t.k2, .int .i64 t.k3]
def tz : TableD := ⟨0, 0, 0, 0, 0, 0⟩

/-- A list of tables: six cells each. -/
def TablesAt (w : World) (ao : Option Addr) (ts : List TableD) : Prop :=
  ts.length ≤ 192153584101141162 ∧ ∀ i, i < ts.length → ∃ b off, ao = some ⟨b, off, none⟩ ∧
    w.cell? ⟨b, off + i * 6, none⟩ = some (.int .i64 (ts.getD i tz).cols) ∧ w.cell? ⟨b, off + i * 6 + 1, none⟩ = some (.int .i64 (ts.getD i tz).rows) ∧
    w.cell? ⟨b, off + i * 6 + 2, none⟩ = some (.int .i64 (ts.getD i tz).k0) ∧ w.cell? ⟨b, off + i * 6 + 3, none⟩ = some (.int .i64 (ts.getD i tz).k1) ∧
    w.cell? ⟨b, off + i * 6 + 4, none⟩ = some (.int .i64 (ts.getD i tz).k2) ∧ w.cell? ⟨b, off + i * 6 + 5, none⟩ = some (.int .i64 (ts.getD i tz).k3)

/-- A condition. -/
structure CondD where
  not : Bool
  op : Int
  left : Int
  const : Bool
  right : Int

def cz : CondD := ⟨false, 0, 0, false, 0⟩
def CondD.val (c : CondD) : Value := .agg #[.bool c.not, .int .i64 c.op, .int .i64 c.left, .bool c.const, .int .i64 c.right]

/-- A list of conditions: five cells each. -/
def CondsAt (w : World) (ao : Option Addr) (cs : List CondD) : Prop :=
  cs.length ≤ 230584300921369395 ∧ ∀ i, i < cs.length → ∃ b off, ao = some ⟨b, off, none⟩ ∧
    w.cell? ⟨b, off + i * 5, none⟩ = some (.bool (cs.getD i cz).not) ∧ w.cell? ⟨b, off + i * 5 + 1, none⟩ = some (.int .i64 (cs.getD i cz).op) ∧
    w.cell? ⟨b, off + i * 5 + 2, none⟩ = some (.int .i64 (cs.getD i cz).left) ∧ w.cell? ⟨b, off + i * 5 + 3, none⟩ = some (.bool (cs.getD i cz).const) ∧
    w.cell? ⟨b, off + i * 5 + 4, none⟩ = some (.int .i64 (cs.getD i cz).right)

/-- A slice of conditions: its address, its capacity, what it holds. -/
structure ClauseV where
  ad : Option Addr
  cap : Nat
  cs : List CondD

def lz : ClauseV := ⟨none, 0, []⟩
def ClauseV.val (c : ClauseV) : Value := .slice c.ad c.cs.length c.cap

/-- A list of clauses: one cell each, which holds the slice of its conditions. -/
def ClausesAt (w : World) (ao : Option Addr) (ls : List ClauseV) : Prop :=
  ls.length ≤ 1152921504606846976 ∧ CellsAt w ao ls.length (fun i => (ls.getD i lz).val) ∧ ∀ i, i < ls.length → CondsAt w (ls.getD i lz).ad (ls.getD i lz).cs

/-- A slice of numbers. -/
structure IntsV where
  ad : Option Addr
  cap : Nat
  xs : List Int

def IntsV.val (v : IntsV) : Value := .slice v.ad v.xs.length v.cap
def IntsV.At (v : IntsV) (w : World) : Prop := IntsAt w v.ad v.xs

/-- A query, with the addresses of its lists. -/
structure QueryV where
  src : IntsV
  wad : Option Addr
  wcap : Nat
  wh : List ClauseV
  group : Bool
  keys : IntsV
  sums : IntsV
  sel : IntsV
  ord : IntsV

def QueryV.cells (q : QueryV) : Array Value := #[q.src.val, .slice q.wad q.wh.length q.wcap, .bool q.group, q.keys.val, q.sums.val, q.sel.val, q.ord.val]
structure QueryV.At (q : QueryV) (w : World) : Prop where
  src : q.src.At w
  wh : ClausesAt w q.wad q.wh
  keys : q.keys.At w
  sums : q.sums.At w
  sel : q.sel.At w
  ord : q.ord.At w

/-! Plain functions: what both sides answer. -/

def allB (xs : List Int) (n : Int) : Bool := xs.all fun x => decide (0 ≤ x) && decide (x < n)

theorem allB_take (xs : List Int) (n : Int) (k : Nat) (hk : k < xs.length) : allB (xs.take (k + 1)) n = (allB (xs.take k) n && (decide (0 ≤ xs[k]) && decide (xs[k] < n))) := by
  unfold allB
  rw [List.take_succ_eq_append_getElem hk, List.all_append, List.all_cons, List.all_nil, Bool.and_true]

theorem allB_bad (xs : List Int) (n : Int) (k : Nat) (hk : k < xs.length) (h : xs[k] < 0 ∨ n ≤ xs[k]) : allB xs n = false := by
  unfold allB
  rw [List.all_eq_false]
  refine ⟨xs[k], List.getElem_mem hk, ?_⟩
  simp
  omega

theorem allB_step {xs : List Int} {n : Int} {k : Nat} (hk : k < xs.length) (hp : allB (xs.take k) n = true) (h1 : ¬ xs[k] < 0) (h2 : xs[k] < n) : allB (xs.take (k + 1)) n = true := by
  rw [allB_take xs n k hk, hp]
  simp
  omega

theorem allB_whole {xs : List Int} {n : Int} {k : Nat} (hk : k ≤ xs.length) (hlt : ¬ k < xs.length) (hp : allB (xs.take k) n = true) : true = allB xs n := by
  have : k = xs.length := by omega
  subst this
  rw [List.take_length] at hp
  exact hp.symm

/-- No number twice: none of the first k stands among those ahead of it. -/
def apartB (xs : List Int) : Bool := decide (∀ i, i < xs.length → ∀ j, j < i → xs.getD i 0 ≠ xs.getD j 0)

theorem apartB_bad {xs : List Int} {i j : Nat} (hi : i < xs.length) (hj : j < i) (h : xs.getD i 0 = xs.getD j 0) : false = apartB xs := by
  symm
  unfold apartB
  rw [decide_eq_false_iff_not]
  intro h'
  exact h' i hi j hj h

theorem apartB_good {xs : List Int} (h : ∀ i, i < xs.length → ∀ j, j < i → xs.getD i 0 ≠ xs.getD j 0) : true = apartB xs := by
  symm
  unfold apartB
  rw [decide_eq_true_iff]
  exact h

/-- May a condition be, where there are n columns? -/
def condB (c : CondD) (n : Int) : Bool :=
  decide (0 ≤ c.left) && decide (c.left < n) && decide (0 ≤ c.op) && decide (c.op ≤ 2) &&
    (if c.op = 2 then !c.const && decide (c.right = 0) else if c.const then decide (-1000 ≤ c.right) && decide (c.right ≤ 1000) else decide (0 ≤ c.right) && decide (c.right ≤ n - 1))

/-- How many values a row that comes out has. -/
def outN (group : Bool) (keys sums sel : List Int) : Int := if group then keys.length + 1 + sums.length else sel.length

def TableD.kd (t : TableD) : Nat → Int
  | 0 => t.k0
  | 1 => t.k1
  | 2 => t.k2
  | _ => t.k3

theorem TableD.kd_cell (wr : World) (t : TableD) (ty : TypeId) (m : Nat) (hm : m < 4) :
    (wr.alloc (.cells #[.int .i64 t.cols, .int .i64 t.rows, .int .i64 t.k0, .int .i64 t.k1, .int .i64 t.k2, .int .i64 t.k3] ty)).cell? ⟨wr.heap.size, 2 + m, none⟩ = some (.int .i64 (t.kd m)) := by
  rcases (by omega : m = 0 ∨ m = 1 ∨ m = 2 ∨ m = 3) with rfl | rfl | rfl | rfl <;> simp [TableD.kd]

def tableB (t : TableD) : Bool :=
  decide (1 ≤ t.cols ∧ t.cols ≤ 4 ∧ 0 ≤ t.rows ∧ t.rows ≤ 1000000 ∧ ∀ m, m < t.cols.toNat → 1 ≤ t.kd m ∧ t.kd m ≤ 1000000)

theorem tableB_bad {t : TableD} (h : t.cols < 1 ∨ 4 < t.cols ∨ t.rows < 0 ∨ 1000000 < t.rows) : tableB t = false := by
  unfold tableB
  rw [decide_eq_false_iff_not]
  omega

theorem tableB_badk {t : TableD} (m : Nat) (hm : m < t.cols.toNat) (h : t.kd m < 1 ∨ 1000000 < t.kd m) : tableB t = false := by
  unfold tableB
  rw [decide_eq_false_iff_not]
  intro h'
  have := h'.2.2.2.2 m hm
  omega

theorem tableB_good {t : TableD} (h1 : 1 ≤ t.cols) (h2 : t.cols ≤ 4) (h3 : 0 ≤ t.rows) (h4 : t.rows ≤ 1000000) (h : ∀ m, m < t.cols.toNat → 1 ≤ t.kd m ∧ t.kd m ≤ 1000000) : tableB t = true := by
  unfold tableB
  rw [decide_eq_true_iff]
  exact ⟨h1, h2, h3, h4, h⟩

def catB (ts : List TableD) : Bool := decide (1 ≤ ts.length) && decide (ts.length ≤ 8) && ts.all tableB

theorem catB_short {ts : List TableD} (h : ts.length < 1) : false = catB ts := by
  unfold catB
  have : decide (1 ≤ ts.length) = false := decide_eq_false (by omega)
  rw [this, Bool.false_and, Bool.false_and]

theorem catB_long {ts : List TableD} (h : 8 < ts.length) : false = catB ts := by
  unfold catB
  have : decide (ts.length ≤ 8) = false := decide_eq_false (by omega)
  rw [this, Bool.and_false, Bool.false_and]

theorem catB_bad {ts : List TableD} {k : Nat} (hk : k < ts.length) (h : tableB (ts.getD k tz) = false) : false = catB ts := by
  unfold catB
  symm
  rw [Bool.and_eq_false_iff]
  right
  rw [List.all_eq_false]
  refine ⟨ts[k], List.getElem_mem hk, ?_⟩
  simp [List.getD, hk] at h
  simp [h]

theorem all_step {α : Type} {f : α → Bool} {ts : List α} {k : Nat} {z : α} (hk : k < ts.length) (hp : (ts.take k).all f = true) (h : f (ts.getD k z) = true) : (ts.take (k + 1)).all f = true := by
  rw [List.take_succ_eq_append_getElem hk, List.all_append, hp]
  simp [List.getD, hk] at h
  simp [h]

theorem catB_good {ts : List TableD} {k : Nat} (h0 : ¬ ts.length < 1) (h8 : ¬ 8 < ts.length) (hk : k ≤ ts.length) (hlt : ¬ k < ts.length) (hp : (ts.take k).all tableB = true) : true = catB ts := by
  have : k = ts.length := by omega
  subst this
  rw [List.take_length] at hp
  unfold catB
  rw [hp, decide_eq_true (show 1 ≤ ts.length by omega), decide_eq_true (show ts.length ≤ 8 by omega)]
  rfl

/-- A cell that is there lies in a block that is there. -/
theorem lt_of_cell {w : World} {b o : Nat} {v : Value} (h : w.cell? ⟨b, o, none⟩ = some v) : b < w.heap.size := by
  simp only [World.cell?] at h
  rcases Nat.lt_or_ge b w.heap.size with hb | hb
  · exact hb
  · simp [Array.getElem?_eq_none hb] at h

end Go.Scout
