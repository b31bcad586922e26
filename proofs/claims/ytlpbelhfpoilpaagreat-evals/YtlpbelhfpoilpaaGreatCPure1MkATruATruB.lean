import Derived.Test.YtlpbelhfpoilpaaGreatProg
import Derived.Test.YtlpbelhfpoilpaaGreatCBaseRItAItBItC
import Derived.Test.YtlpbelhfpoilpaaGreatCBase5PickAItFPure0
set_option linter.all false
namespace Go.Scout
open Go.RowKit

def valB (v : Int) : Bool := decide (v = 1073741824) || (decide (-1000 ≤ v) && decide (v ≤ 1000))
def rowB (xs : List Int) (n : Int) : Bool := decide ((xs.length : Int) = n) && xs.all valB
def fitB (rs : List IntsV) (n : Int) : Bool := rs.all fun r => rowB r.xs n
def tabB (d : RowsV) (t : TableD) : Bool := decide (d.rs.length ≤ 50) && fitB d.rs t.cols
def dbB (ts : List TableD) (db : List RowsV) : Bool := (List.range db.length).all fun i => tabB (db.getD i rz) (ts.getD i tz)
def prodN (src : List Int) (db : List RowsV) : Nat := src.foldl (fun n t => n * max 1 (db.getD t.toNat rz).rs.length) 1
def dataB (ts : List TableD) (src : List Int) (db : List RowsV) : Bool := decide (db.length = ts.length) && dbB ts db && decide (prodN src db ≤ 20000)

theorem allG_bad {α : Type} {p : α → Bool} {l : List α} {d : α} {k : Nat} (hk : k < l.length) (h : p (l.getD k d) = false) : l.all p = false := by
  rw [List.all_eq_false]
  have e : l.getD k d = l[k] := by simp [List.getD, hk]
  rw [e] at h
  exact ⟨l[k], List.getElem_mem hk, by rw [h]; simp⟩
theorem allG_step {α : Type} {p : α → Bool} {l : List α} {d : α} {k : Nat} (hk : k < l.length) (hp : (l.take k).all p = true) (h : p (l.getD k d) = true) : (l.take (k + 1)).all p = true := by
  have e : l.getD k d = l[k] := by simp [List.getD, hk]
  rw [e] at h
  rw [List.take_succ_eq_append_getElem hk, List.all_append, hp, List.all_cons, List.all_nil, h]
  rfl
theorem allG_at {α : Type} {p : α → Bool} {l : List α} {d : α} {k : Nat} (hk : k < l.length) (h : l.all p = true) : p (l.getD k d) = true := by
  rw [List.all_eq_true] at h
  have e : l.getD k d = l[k] := by simp [List.getD, hk]
  rw [e]
  exact h _ (List.getElem_mem hk)

theorem rowB_at {xs : List Int} {n : Int} (h : rowB xs n = true) : (xs.length : Int) = n ∧ xs.all valB = true := by
  unfold rowB at h
  simp only [Bool.and_eq_true, decide_eq_true_eq] at h
  exact h

theorem range_all_bad {p : Nat → Bool} {n k : Nat} (hk : k < n) (h : p k = false) : (List.range n).all p = false := by
  rw [List.all_eq_false]
  exact ⟨k, by simpa using hk, by rw [h]; simp⟩
theorem range_all_step {p : Nat → Bool} {k : Nat} (hp : (List.range k).all p = true) (h : p k = true) : (List.range (k + 1)).all p = true := by
  rw [List.range_succ, List.all_append, hp, List.all_cons, List.all_nil, h]
  rfl

theorem prodN_succ {src : List Int} {db : List RowsV} {k : Nat} (hk : k < src.length) : prodN (src.take (k + 1)) db = prodN (src.take k) db * max 1 (db.getD src[k].toNat rz).rs.length := by
  unfold prodN
  rw [List.take_succ_eq_append_getElem hk, List.foldl_append]
  rfl
theorem dbB_len {ts : List TableD} {db : List RowsV} (h : dbB ts db = true) (i : Nat) : (db.getD i rz).rs.length ≤ 50 := by
  by_cases hi : i < db.length
  · unfold dbB at h
    rw [List.all_eq_true] at h
    have := h i (by simpa using hi)
    unfold tabB at this
    simp only [Bool.and_eq_true, decide_eq_true_eq] at this
    exact this.1
  · have : db.getD i rz = rz := by simp [List.getD, hi]
    rw [this]
    decide
theorem prodN_le {src : List Int} {ts : List TableD} {db : List RowsV} (h : dbB ts db = true) : prodN src db ≤ 50 ^ src.length := by
  unfold prodN
  have hg : ∀ (l : List Int) (n : Nat), l.foldl (fun n t => n * max 1 (db.getD t.toNat rz).rs.length) n ≤ n * 50 ^ l.length := by
    intro l
    induction l with
    | nil => intro n; simp
    | cons a l ih =>
      intro n
      refine Nat.le_trans (ih _) ?_
      have h1 := dbB_len h a.toNat
      have h2 : max 1 (db.getD a.toNat rz).rs.length ≤ 50 := by omega
      rw [List.length_cons, Nat.pow_succ, Nat.mul_comm (50 ^ l.length) 50, ← Nat.mul_assoc]
      exact Nat.mul_le_mul_right _ (Nat.mul_le_mul_left _ h2)
  have := hg src 1
  omega
theorem prodN_small {src : List Int} {ts : List TableD} {db : List RowsV} (h : dbB ts db = true) (hs : src.length ≤ 5) : prodN src db ≤ 312500000 := by
  have h1 := prodN_le (src := src) h
  have h2 : (50 : Nat) ^ src.length ≤ 50 ^ 5 := Nat.pow_le_pow_right (by decide) hs
  have h3 : (50 : Nat) ^ 5 = 312500000 := by decide
  omega
theorem prodN_take_le {src : List Int} {ts : List TableD} {db : List RowsV} (h : dbB ts db = true) (hs : src.length ≤ 5) (k : Nat) : prodN (src.take k) db ≤ 312500000 :=
  prodN_small h (by rw [List.length_take]; omega)

end Go.Scout

namespace Go.Scout
open Go.RowKit

/-- A function value over which one can range. -/
def SeqV (E : El IntsV (List Int)) (P : Program) (v : Value) (rows : List (List Int)) (w : World) : Prop :=
  ∃ g lb, v = .func (.func g) #[] lb ∧ (∀ args w, (callFunc g args).run P w = .ok (.enter g args) w) ∧ Seq E P g lb rows w

theorem SeqV.later {E : El IntsV (List Int)} {P : Program} {v : Value} {rows : List (List Int)} {w w' : World} (h : SeqV E P v rows w) (hb : Below w.heap.size w w') : SeqV E P v rows w' := by
  obtain ⟨g, lb, hv, eg, hs⟩ := h
  exact ⟨g, lb, hv, eg, Seq.later E hs hb⟩

def tabN (db : List RowsV) (t : Int) : List (List Int) := (db.getD t.toNat rz).rs.map (·.xs)
def combosT : List (List (List Int)) → List (List Int)
  | [] => []
  | t :: ts => ts.foldl joinN t
theorem combosT_snoc {t x : List (List Int)} {ts : List (List (List Int))} : combosT (t :: (ts ++ [x])) = joinN (combosT (t :: ts)) x := by simp [combosT, List.foldl_append]
def combosN (src : List Int) (db : List RowsV) : List (List Int) := combosT (src.map (tabN db))

theorem combosN_succ {src : List Int} {db : List RowsV} {k : Nat} (hk : k + 1 < src.length) : combosN (src.take (k + 2)) db = joinN (combosN (src.take (k + 1)) db) (tabN db src[k + 1]) := by
  unfold combosN
  rw [List.take_succ_eq_append_getElem hk, List.map_append]
  cases src with
  | nil => simp at hk
  | cons a l =>
    rw [List.take_succ_cons, List.map_cons, List.cons_append, List.map_cons, List.map_nil]
    exact combosT_snoc

theorem joinN_le {L R : List (List Int)} {m n : Nat} (hL : ∀ a ∈ L, a.length ≤ m) (hR : ∀ a ∈ R, a.length ≤ n) : ∀ a ∈ joinN L R, a.length ≤ m + n := by
  intro a ha
  unfold joinN at ha
  obtain ⟨x, hx, ha⟩ := List.mem_flatMap.1 ha
  obtain ⟨y, hy, rfl⟩ := List.mem_map.1 ha
  have := hL x hx
  have := hR y hy
  rw [List.length_append]
  omega

/-- A database whose tables lie in memory that there is. -/
def DbHad (w : World) (d : Option Addr) (db : List RowsV) : Prop := DbAt w d db ∧ ∀ i, i < db.length → RowsHad w (db.getD i rz).ad (db.getD i rz).rs
theorem DbHad.below {w w' : World} (hb : Below w.heap.size w w') {d : Option Addr} {db : List RowsV} (h : DbHad w d db) : DbHad w' d db := ⟨h.1.below hb, fun i hi => (h.2 i hi).below hb⟩

end Go.Scout
namespace Go.Proofs.YtlpbelhfpoilpaaGreat
open Go.RowKit Go.Scout Go.Shelf

set_option maxRecDepth 20000 in
set_option maxHeartbeats 4000000 in
theorem scan_make (t : RowsV) (w : World) (h : RowsHad w t.ad t.rs) :
    Calls Tryz.prog 69 #[t.val] w fun e w' => ∃ v, e = .returned v ∧ SeqV rowEl Tryz.prog v (t.rs.map (·.xs)) w' ∧ Below w.heap.size w w' := by
  obtain ⟨ad, cap, rs⟩ := t
  unfold RowsV.val
  simp only at *
  have hb := below_alloc w (.cells #[.slice ad rs.length cap] 29)
  have hs : SeqV rowEl Tryz.prog (.func (.func 85) #[] #[.pointer (some ⟨w.heap.size, 0, none⟩)]) (rs.map (·.xs)) (w.alloc (.cells #[.slice ad rs.length cap] 29)) :=
    ⟨_, _, rfl, enters_of Tryz.func85 (by kernel_rfl) rfl, scan_seq w.heap.size ad cap rs _ (by simp) (by simp) (h.below hb)⟩
  have HS : Hid _ := hs
  have HB : Hid _ := hb
  clear hs hb h
  go_enter Tryz.func69, Tryz.ntmps69
  go_wp2
  go_ret
  exact ⟨_, rfl, HS.out, HB.out⟩

set_option maxRecDepth 20000 in
set_option maxHeartbeats 4000000 in
theorem loop_make (vl vr : Value) (L R : List (List Int)) (w : World) (hl : SeqV rowEl Tryz.prog vl L w) (hr : SeqV rowEl Tryz.prog vr R w) (hR : R.length ≤ 1000000) (hLl : ∀ a ∈ L, a.length ≤ 1000) (hRl : ∀ a ∈ R, a.length ≤ 1000) :
    Calls Tryz.prog 70 #[vl, vr] w fun e w' => ∃ v, e = .returned v ∧ SeqV rowEl Tryz.prog v (joinN L R) w' ∧ Below w.heap.size w w' := by
  obtain ⟨gl, lbl, rfl, egl, hsl⟩ := hl
  obtain ⟨gr, lbr, rfl, egr, hsr⟩ := hr
  have hb1 := below_alloc w (.cells #[.func (.func gl) #[] lbl] 62)
  have hb2 := below_alloc (w.alloc (.cells #[.func (.func gl) #[] lbl] 62)) (.cells #[.func (.func gr) #[] lbr] 62)
  have hb := hb1.trans (hb2.mono hb1.size)
  have hs : SeqV rowEl Tryz.prog (.func (.func 86) #[] #[.pointer (some ⟨w.heap.size + 1, 0, none⟩), .pointer (some ⟨w.heap.size, 0, none⟩)]) (joinN L R) ((w.alloc (.cells #[.func (.func gl) #[] lbl] 62)).alloc (.cells #[.func (.func gr) #[] lbr] 62)) :=
    ⟨_, _, rfl, enters_of Tryz.func86 (by kernel_rfl) rfl, loop_seq (w.heap.size + 1) w.heap.size gr gl lbr lbl L R _ (by simp) (by simp; omega) (by simp) (by simp) (Seq.later _ hsr hb) (Seq.later _ hsl hb) egr egl hR hLl hRl⟩
  have HS : Hid _ := hs
  have HB : Hid _ := hb
  clear hs hb hb1 hb2 hsl hsr hR hLl hRl
  go_enter Tryz.func70, Tryz.ntmps70
  go_wp2
  go_ret
  exact ⟨_, rfl, HS.out, HB.out⟩

set_option maxRecDepth 20000 in
set_option maxHeartbeats 4000000 in
theorem filter_make (vi : Value) (gk : Nat) (lbk : Array Value) (rows : List (List Int)) (p : List Int → Bool) (w : World) (hi : SeqV rowEl Tryz.prog vi rows w) (egk : ∀ args w, (callFunc gk args).run Tryz.prog w = .ok (.enter gk args) w)
    (hkeep : ∀ W x, Below w.heap.size w W → IntsV.At x W → x.xs ∈ rows → Calls Tryz.prog gk (#[x.val] ++ lbk) W fun e W' => e = .returned (.bool (p x.xs)) ∧ Below W.heap.size W W') :
    Calls Tryz.prog 39 #[vi, .func (.func gk) #[] lbk] w fun e w' => ∃ v, e = .returned v ∧ SeqV rowEl Tryz.prog v (rows.filter p) w' ∧ Below w.heap.size w w' := by
  obtain ⟨gi, lbi, rfl, egi, hsi⟩ := hi
  have hb1 := below_alloc w (.cells #[.func (.func gi) #[] lbi] 62)
  have hb2 := below_alloc (w.alloc (.cells #[.func (.func gi) #[] lbi] 62)) (.cells #[.func (.func gk) #[] lbk] 87)
  have hb := hb1.trans (hb2.mono hb1.size)
  have hs : SeqV rowEl Tryz.prog (.func (.func 68) #[] #[.pointer (some ⟨w.heap.size, 0, none⟩), .pointer (some ⟨w.heap.size + 1, 0, none⟩)]) (rows.filter p) ((w.alloc (.cells #[.func (.func gi) #[] lbi] 62)).alloc (.cells #[.func (.func gk) #[] lbk] 87)) :=
    ⟨_, _, rfl, enters_of Tryz.func68 (by kernel_rfl) rfl, filter_seq w.heap.size (w.heap.size + 1) gi gk lbi lbk rows p _ (by simp; omega) (by simp) (by simp) (by simp) (Seq.later _ hsi hb) egi egk (fun W x hW hx hm => hkeep W x (hb.trans (hW.mono hb.size)) hx hm)⟩
  have HS : Hid _ := hs
  have HB : Hid _ := hb
  clear hs hb hb1 hb2 hsi hkeep
  go_enter Tryz.func39, Tryz.ntmps39
  go_wp2
  go_ret
  exact ⟨_, rfl, HS.out, HB.out⟩

set_option maxRecDepth 20000 in
set_option maxHeartbeats 4000000 in
theorem project_make (vi : Value) (c : IntsV) (rows : List (List Int)) (w : World) (hi : SeqV rowEl Tryz.prog vi rows w) (hc : c.At w) (hcl : c.xs.length ≤ 1000) (hin : ∀ r ∈ rows, allB c.xs r.length = true) :
    Calls Tryz.prog 74 #[vi, c.val] w fun e w' => ∃ v, e = .returned v ∧ SeqV (ownEl 3) Tryz.prog v (rows.map fun r => pickN r c.xs) w' ∧ Below w.heap.size w w' := by
  obtain ⟨gi, lbi, rfl, egi, hsi⟩ := hi
  have hb1 := below_alloc w (.cells #[.func (.func gi) #[] lbi] 62)
  have hb2 := below_alloc (w.alloc (.cells #[.func (.func gi) #[] lbi] 62)) (.cells #[c.val] 23)
  have hb := hb1.trans (hb2.mono hb1.size)
  have hs : SeqV (ownEl 3) Tryz.prog (.func (.func 96) #[] #[.pointer (some ⟨w.heap.size, 0, none⟩), .pointer (some ⟨w.heap.size + 1, 0, none⟩)]) (rows.map fun r => pickN r c.xs) ((w.alloc (.cells #[.func (.func gi) #[] lbi] 62)).alloc (.cells #[c.val] 23)) :=
    ⟨_, _, rfl, enters_of Tryz.func96 (by kernel_rfl) rfl, project_seq w.heap.size (w.heap.size + 1) gi lbi c rows _ (by simp; omega) (by simp) (by simp) (by simp) (IntsAt.below hb hc) hcl (Seq.later _ hsi hb) egi hin⟩
  obtain ⟨cad, ccap, cxs⟩ := c
  unfold IntsV.val at *
  simp only at *
  have HS : Hid _ := hs
  have HB : Hid _ := hb
  clear hs hb hb1 hb2 hsi hc hcl hin
  go_enter Tryz.func74, Tryz.ntmps74
  go_wp2
  go_ret
  exact ⟨_, rfl, HS.out, HB.out⟩

end Go.Proofs.YtlpbelhfpoilpaaGreat

namespace Go.Proofs.YtlpbelhfpoilpaaGreat
open Go.RowKit Go.Scout

set_option maxRecDepth 20000 in
set_option maxHeartbeats 8000000 in
theorem plainTruth_any (c : CondD) (ao : Option Addr) (cap : Nat) (xs : List Int) (w : World) (hx : IntsAt w ao xs) (hop : c.op = 0 ∨ c.op = 1 ∨ c.op = 2) (hl : 0 ≤ c.left ∧ c.left < xs.length) (hr : c.op = 2 ∨ c.const = true ∨ (0 ≤ c.right ∧ c.right < xs.length)) :
    Calls Tryz.prog 101 #[c.val, .slice ao xs.length cap] w fun e w' => e = .returned (.int .i64 (truthV c.op (xs.getD c.left.toNat 0) (if c.op = 2 ∨ c.const = true then c.right else xs.getD c.right.toNat 0) + 1)) ∧ Below w.heap.size w w' := by
  have hlen := hx.1
  obtain ⟨b, off, rfl, hc⟩ := hx.get (i := c.left.toNat) (by omega)
  have hcl := cell_alloc (hc c.left.toNat (by omega))
  have hbw := lt_of_cell (hc c.left.toNat (by omega))
  obtain ⟨nt, op, left, const, right⟩ := c
  unfold CondD.val
  simp only at hop hl hr hcl
  simp only
  generalize hL : xs.getD left.toNat 0 = L at *
  rcases hop with rfl | rfl | rfl
  · cases const
    · have hr' : 0 ≤ right ∧ right < xs.length := by
        rcases hr with h | h | h
        · omega
        · cases h
        · exact h
      have hcr := cell_alloc (hc right.toNat (by omega))
      have hRR : (if (0 : Int) = 2 ∨ false = true then right else xs.getD right.toNat 0) = xs.getD right.toNat 0 := if_neg (by simp)
      rw [hRR]
      clear hRR hr hc hx hL
      generalize xs.getD right.toNat 0 = Q at *
      generalize hR : truthV 0 L Q + 1 = R
      by_cases l1 : L = 1073741824
      · have f1 : (L == 1073741824) = true := by simpa using l1
        have HF : Hid ((1 : Int) = R) := show _ = _ by rw [← hR]; simp [truthV, l1]
        clear hR
        go_enter Tryz.func101, Tryz.ntmps101
        go_wp2
        go_ret
        exact ⟨ret_int HF.out, below_alloc _ _⟩
      · have f1 : (L == 1073741824) = false := by simpa using l1
        by_cases r1 : Q = 1073741824
        · have f2 : (Q == 1073741824) = true := by simpa using r1
          have HF : Hid ((1 : Int) = R) := show _ = _ by rw [← hR]; simp [truthV, r1]
          clear hR
          go_enter Tryz.func101, Tryz.ntmps101
          go_wp2
          go_ret
          exact ⟨ret_int HF.out, below_alloc _ _⟩
        · have f2 : (Q == 1073741824) = false := by simpa using r1
          by_cases h3 : L = Q
          · have f3 : (L == Q) = true := by simpa using h3
            have HF : Hid ((2 : Int) = R) := show _ = _ by rw [← hR]; simp [truthV, l1, r1, h3]
            clear hR
            go_enter Tryz.func101, Tryz.ntmps101
            go_wp2
            go_ret
            exact ⟨ret_int HF.out, below_alloc _ _⟩
          · have f3 : (L == Q) = false := by simpa using h3
            have HF : Hid ((0 : Int) = R) := show _ = _ by rw [← hR]; simp [truthV, l1, r1, h3]
            clear hR
            go_enter Tryz.func101, Tryz.ntmps101
            go_wp2
            go_ret
            exact ⟨ret_int HF.out, below_alloc _ _⟩
    · have hRR : (if (0 : Int) = 2 ∨ true = true then right else xs.getD right.toNat 0) = right := if_pos (by simp)
      rw [hRR]
      clear hRR hr hc hx hL
      generalize hR : truthV 0 L right + 1 = R
      by_cases l1 : L = 1073741824
      · have f1 : (L == 1073741824) = true := by simpa using l1
        have HF : Hid ((1 : Int) = R) := show _ = _ by rw [← hR]; simp [truthV, l1]
        clear hR
        go_enter Tryz.func101, Tryz.ntmps101
        go_wp2
        go_ret
        exact ⟨ret_int HF.out, below_alloc _ _⟩
      · have f1 : (L == 1073741824) = false := by simpa using l1
        by_cases r1 : right = 1073741824
        · have f2 : (right == 1073741824) = true := by simpa using r1
          have HF : Hid ((1 : Int) = R) := show _ = _ by rw [← hR]; simp [truthV, r1]
          clear hR
          go_enter Tryz.func101, Tryz.ntmps101
          go_wp2
          go_ret
          exact ⟨ret_int HF.out, below_alloc _ _⟩
        · have f2 : (right == 1073741824) = false := by simpa using r1
          by_cases h3 : L = right
          · have f3 : (L == right) = true := by simpa using h3
            have HF : Hid ((2 : Int) = R) := show _ = _ by rw [← hR]; simp [truthV, l1, r1, h3]
            clear hR
            go_enter Tryz.func101, Tryz.ntmps101
            go_wp2
            go_ret
            exact ⟨ret_int HF.out, below_alloc _ _⟩
          · have f3 : (L == right) = false := by simpa using h3
            have HF : Hid ((0 : Int) = R) := show _ = _ by rw [← hR]; simp [truthV, l1, r1, h3]
            clear hR
            go_enter Tryz.func101, Tryz.ntmps101
            go_wp2
            go_ret
            exact ⟨ret_int HF.out, below_alloc _ _⟩
  · cases const
    · have hr' : 0 ≤ right ∧ right < xs.length := by
        rcases hr with h | h | h
        · omega
        · cases h
        · exact h
      have hcr := cell_alloc (hc right.toNat (by omega))
      have hRR : (if (1 : Int) = 2 ∨ false = true then right else xs.getD right.toNat 0) = xs.getD right.toNat 0 := if_neg (by simp)
      rw [hRR]
      clear hRR hr hc hx hL
      generalize xs.getD right.toNat 0 = Q at *
      generalize hR : truthV 1 L Q + 1 = R
      by_cases l1 : L = 1073741824
      · have f1 : (L == 1073741824) = true := by simpa using l1
        have HF : Hid ((1 : Int) = R) := show _ = _ by rw [← hR]; simp [truthV, l1]
        clear hR
        go_enter Tryz.func101, Tryz.ntmps101
        go_wp2
        go_ret
        exact ⟨ret_int HF.out, below_alloc _ _⟩
      · have f1 : (L == 1073741824) = false := by simpa using l1
        by_cases r1 : Q = 1073741824
        · have f2 : (Q == 1073741824) = true := by simpa using r1
          have HF : Hid ((1 : Int) = R) := show _ = _ by rw [← hR]; simp [truthV, r1]
          clear hR
          go_enter Tryz.func101, Tryz.ntmps101
          go_wp2
          go_ret
          exact ⟨ret_int HF.out, below_alloc _ _⟩
        · have f2 : (Q == 1073741824) = false := by simpa using r1
          by_cases h3 : L < Q
          · have HF : Hid ((2 : Int) = R) := show _ = _ by rw [← hR]; simp [truthV, l1, r1, h3]
            clear hR
            go_enter Tryz.func101, Tryz.ntmps101
            go_wp2
            go_ret
            exact ⟨ret_int HF.out, below_alloc _ _⟩
          · have HF : Hid ((0 : Int) = R) := show _ = _ by rw [← hR]; simp [truthV, l1, r1, h3]
            clear hR
            go_enter Tryz.func101, Tryz.ntmps101
            go_wp2
            go_ret
            exact ⟨ret_int HF.out, below_alloc _ _⟩
    · have hRR : (if (1 : Int) = 2 ∨ true = true then right else xs.getD right.toNat 0) = right := if_pos (by simp)
      rw [hRR]
      clear hRR hr hc hx hL
      generalize hR : truthV 1 L right + 1 = R
      by_cases l1 : L = 1073741824
      · have f1 : (L == 1073741824) = true := by simpa using l1
        have HF : Hid ((1 : Int) = R) := show _ = _ by rw [← hR]; simp [truthV, l1]
        clear hR
        go_enter Tryz.func101, Tryz.ntmps101
        go_wp2
        go_ret
        exact ⟨ret_int HF.out, below_alloc _ _⟩
      · have f1 : (L == 1073741824) = false := by simpa using l1
        by_cases r1 : right = 1073741824
        · have f2 : (right == 1073741824) = true := by simpa using r1
          have HF : Hid ((1 : Int) = R) := show _ = _ by rw [← hR]; simp [truthV, r1]
          clear hR
          go_enter Tryz.func101, Tryz.ntmps101
          go_wp2
          go_ret
          exact ⟨ret_int HF.out, below_alloc _ _⟩
        · have f2 : (right == 1073741824) = false := by simpa using r1
          by_cases h3 : L < right
          · have HF : Hid ((2 : Int) = R) := show _ = _ by rw [← hR]; simp [truthV, l1, r1, h3]
            clear hR
            go_enter Tryz.func101, Tryz.ntmps101
            go_wp2
            go_ret
            exact ⟨ret_int HF.out, below_alloc _ _⟩
          · have HF : Hid ((0 : Int) = R) := show _ = _ by rw [← hR]; simp [truthV, l1, r1, h3]
            clear hR
            go_enter Tryz.func101, Tryz.ntmps101
            go_wp2
            go_ret
            exact ⟨ret_int HF.out, below_alloc _ _⟩
  · have hRR : (if (2 : Int) = 2 ∨ const = true then right else xs.getD right.toNat 0) = right := if_pos (by simp)
    rw [hRR]
    clear hRR hr hc hx hL
    generalize hR : truthV 2 L right + 1 = R
    by_cases l1 : L = 1073741824
    · have f1 : (L == 1073741824) = true := by simpa using l1
      have HF : Hid ((2 : Int) = R) := show _ = _ by rw [← hR]; simp [truthV, l1]
      clear hR
      go_enter Tryz.func101, Tryz.ntmps101
      go_wp2
      go_ret
      exact ⟨ret_int HF.out, below_alloc _ _⟩
    · have f1 : (L == 1073741824) = false := by simpa using l1
      have HF : Hid ((0 : Int) = R) := show _ = _ by rw [← hR]; simp [truthV, l1]
      clear hR
      go_enter Tryz.func101, Tryz.ntmps101
      go_wp2
      go_ret
      exact ⟨ret_int HF.out, below_alloc _ _⟩

end Go.Proofs.YtlpbelhfpoilpaaGreat

namespace Go.Scout
open Go.RowKit

theorem truthN_not (c : CondD) (xs : List Int) : truthN c xs = if c.not then -(truthV c.op (xs.getD c.left.toNat 0) (if c.op = 2 ∨ c.const = true then c.right else xs.getD c.right.toNat 0)) else truthV c.op (xs.getD c.left.toNat 0) (if c.op = 2 ∨ c.const = true then c.right else xs.getD c.right.toNat 0) := rfl

theorem holdsB_bad {ls : List ClauseV} {xs : List Int} {k : Nat} (hk : k < ls.length) (h : someB (ls.getD k lz).cs xs = false) : false = holdsB ls xs := by
  symm
  unfold holdsB
  rw [List.all_eq_false]
  exact ⟨ls[k], List.getElem_mem hk, by have e : ls.getD k lz = ls[k] := by simp [List.getD, hk]
                                        rw [e] at h; rw [h]; simp⟩
theorem holdsB_step {ls : List ClauseV} {xs : List Int} {k : Nat} (hk : k < ls.length) (hp : holdsB (ls.take k) xs = true) (h : someB (ls.getD k lz).cs xs = true) : holdsB (ls.take (k + 1)) xs = true := by
  unfold holdsB at *
  have e : ls.getD k lz = ls[k] := by simp [List.getD, hk]
  rw [e] at h
  rw [List.take_succ_eq_append_getElem hk, List.all_append, hp, List.all_cons, List.all_nil, h]
  rfl

end Go.Scout
namespace Go.Proofs.YtlpbelhfpoilpaaGreat
open Go.RowKit Go.Scout

set_option maxRecDepth 20000 in
set_option maxHeartbeats 8000000 in
theorem condTruth_any (c : CondD) (ao : Option Addr) (cap : Nat) (xs : List Int) (w : World) (hx : IntsAt w ao xs) (hop : c.op = 0 ∨ c.op = 1 ∨ c.op = 2) (hl : 0 ≤ c.left ∧ c.left < xs.length) (hr : c.op = 2 ∨ c.const = true ∨ (0 ≤ c.right ∧ c.right < xs.length)) :
    Calls Tryz.prog 88 #[c.val, .slice ao xs.length cap] w fun e w' => e = .returned (.int .i64 (truthN c xs + 1)) ∧ Below w.heap.size w w' := by
  have hb0 := below_alloc w (.cells #[.bool c.not, .int .i64 c.op, .int .i64 c.left, .bool c.const, .int .i64 c.right] 78)
  have hcon := plainTruth_any c ao cap xs _ (IntsAt.below hb0 hx) hop hl hr
  rw [truthN_not]
  have hrg := truthV_range c.op (xs.getD c.left.toNat 0) (if c.op = 2 ∨ c.const = true then c.right else xs.getD c.right.toNat 0)
  generalize truthV c.op (xs.getD c.left.toNat 0) (if c.op = 2 ∨ c.const = true then c.right else xs.getD c.right.toNat 0) = T at *
  obtain ⟨nt, op, left, const, right⟩ := c
  unfold CondD.val at *
  simp only at *
  clear hop hl hr hx
  have hc0 : (w.alloc (.cells #[.bool nt, .int .i64 op, .int .i64 left, .bool const, .int .i64 right] 78)).cell? ⟨w.heap.size, 0, none⟩ = some (.bool nt) := by simp
  have H0 : Hid _ := hb0
  clear hb0
  rcases hrg with rfl | rfl | rfl <;> cases nt
  all_goals
    go_enter Tryz.func88, Tryz.ntmps88
    go_wp2_with fail
    refine hcon.mono ?_
    rintro e w2 ⟨rfl, hb2⟩
    have hc2 := cell_below hb2 hc0
    go_wp2
    go_ret
    exact ⟨rfl, H0.out.trans (hb2.mono (by simp))⟩

set_option maxRecDepth 20000 in
set_option maxHeartbeats 8000000 in
theorem clauseTruth_any (c : ClauseV) (ao : Option Addr) (cap : Nat) (xs : List Int) (w : World) (hx : IntsAt w ao xs) (hc : CondsAt w c.ad c.cs) (hcs : ∀ k, k < c.cs.length → condB (c.cs.getD k cz) xs.length = true) :
    Calls Tryz.prog 71 #[.agg #[c.val], .slice ao xs.length cap] w fun e w' => e = .returned (.int .i64 (clauseN c.cs xs)) ∧ Below w.heap.size w w' := by
  obtain ⟨ad, ccap, cs⟩ := c
  unfold ClauseV.val
  simp only at hc hcs
  simp only
  have hb0 := below_alloc w (.cells #[.slice ad cs.length ccap] 76)
  have HB : Hid _ := hb0
  have hlc := hc.1
  have HC : Hid _ := hc
  have HX : Hid _ := hx
  have HCS : Hid _ := hcs
  clear hx hc hcs hb0
  go_enter Tryz.func71, Tryz.ntmps71
  go_wp2
  go_loopw [5, 11] (fun m i wr => ∃ k : Nat, k ≤ cs.length ∧ i = .int .i64 k ∧ m = .int .i64 (clauseN (cs.take k) xs) ∧ Below w.heap.size w wr) (fun _ i _ => cs.length - (intOf i).toNat)
  case atStart => exact ⟨0, Nat.zero_le _, rfl, rfl, HB.out⟩
  case round =>
    obtain ⟨k, hk, rfl, rfl, hbr⟩ := hrel
    by_cases hlt : k < cs.length
    · obtain ⟨b4, o4, rfl, e0, e1, e2, e3, e4⟩ := HC.out.2 k hlt
      have d0 := cell_below hbr e0
      have d1 := cell_below hbr e1
      have d2 := cell_below hbr e2
      have d3 := cell_below hbr e3
      have d4 := cell_below hbr e4
      obtain ⟨p1, p2, p3⟩ := condB_parts (HCS.out k hlt)
      have HS : Hid _ := clauseN_succ (xs := xs) hlt
      have hr1 := clauseN_range (cs.take k) xs
      have hr2 := truthN_range (cs.getD k cz) xs
      have hsz := hbr.size
      generalize cs.getD k cz = cc at *
      have hba := below_alloc wr (.cells #[.bool cc.not, .int .i64 cc.op, .int .i64 cc.left, .bool cc.const, .int .i64 cc.right] 78)
      have hcon := condTruth_any cc ao cap xs _ (IntsAt.below hba (IntsAt.below hbr HX.out)) p1 p2 p3
      generalize truthN cc xs = T at *
      generalize clauseN (cs.take k) xs = M at *
      have HBA : Hid _ := hba
      obtain ⟨nt, op, left, const, right⟩ := cc
      unfold CondD.val at hcon
      simp only at *
      clear e0 e1 e2 e3 e4 p1 p2 p3 hba
      have hmx : max M (T + 1) = if M < T + 1 then T + 1 else M := by omega
      go_wp2_with fail
      refine hcon.mono ?_
      rintro e w2 ⟨rfl, hb2⟩
      have hb3 : Below w.heap.size w w2 := hbr.trans ((HBA.out.trans (hb2.mono (by simp))).mono hsz)
      have HB3 : Hid _ := hb3
      clear hb3 hb2 hcon hbr d0 d1 d2 d3 d4
      go_wp2
      go_roundw
      case rel => exact ⟨k + 1, by omega, by go_num, by rw [HS.out, hmx], HB3.out⟩
      case measure => simp [intOf]; omega
    · have hkk : k = cs.length := by omega
      subst hkk
      rw [List.take_length]
      go_wp2
      go_ret
      exact ⟨rfl, hbr⟩

set_option maxRecDepth 20000 in
set_option maxHeartbeats 8000000 in
theorem holds_any (wad : Option Addr) (wcap : Nat) (wh : List ClauseV) (ao : Option Addr) (cap : Nat) (xs : List Int) (w : World) (hx : IntsAt w ao xs) (hq : ClausesAt w wad wh)
    (hcs : ∀ i, i < wh.length → ∀ k, k < (wh.getD i lz).cs.length → condB ((wh.getD i lz).cs.getD k cz) xs.length = true) :
    Calls Tryz.prog 42 #[.slice wad wh.length wcap, .slice ao xs.length cap] w fun e w' => e = .returned (.bool (holdsB wh xs)) ∧ Below w.heap.size w w' := by
  have hlw := hq.1
  have HQ : Hid _ := hq
  have HX : Hid _ := hx
  have HCS : Hid _ := hcs
  clear hx hq hcs
  go_enter Tryz.func42, Tryz.ntmps42
  go_wp2
  go_loopw [9] (fun i wr => ∃ k : Nat, k ≤ wh.length ∧ i = .int .i64 k ∧ Hid (holdsB (wh.take k) xs = true) ∧ Below w.heap.size w wr) (fun i _ => wh.length - (intOf i).toNat)
  case atStart => exact ⟨0, Nat.zero_le _, rfl, rfl, Below.refl _ _⟩
  case round =>
    obtain ⟨k, hk, rfl, HP, hbr⟩ := hrel
    by_cases hlt : k < wh.length
    · obtain ⟨b2, o2, rfl, hc2⟩ := HQ.out.2.1.get hlt
      have hcl := cell_below hbr (hc2 _ hlt)
      have hcd := HQ.out.2.2 k hlt
      have hcb := HCS.out k hlt
      have HBD : Hid (someB (wh.getD k lz).cs xs = false → false = holdsB wh xs) := fun h => holdsB_bad hlt h
      have HGD : Hid (someB (wh.getD k lz).cs xs = true → holdsB (wh.take (k + 1)) xs = true) := fun h => holdsB_step hlt HP.out h
      have hsz := hbr.size
      generalize wh.getD k lz = cl at *
      have hba := below_alloc wr (.cells #[cl.val] 76)
      have hbb : Below w.heap.size w (wr.alloc (.cells #[cl.val] 76)) := hbr.trans (hba.mono hsz)
      have hcon := clauseTruth_any cl ao cap xs _ (IntsAt.below hbb HX.out) (hcd.below hbb) hcb
      have hct := clauseN_true cl.cs xs
      have hrg := clauseN_range cl.cs xs
      have HBB : Hid _ := hbb
      obtain ⟨ad, cp, cs⟩ := cl
      unfold ClauseV.val at *
      simp only at *
      generalize clauseN cs xs = M at *
      clear hc2 hcd hcb hba hbb
      by_cases h2 : M = 2
      · have hs : someB cs xs = true := by rw [← hct, h2]; rfl
        subst h2
        go_wp2_with fail
        refine hcon.mono ?_
        rintro e w2 ⟨rfl, hb2⟩
        have HB3 : Hid (Below w.heap.size w w2) := HBB.out.trans (hb2.mono (by simp; omega))
        clear hb2 hcon hbr hcl
        go_wp2
        go_roundw
        case rel => exact ⟨k + 1, by omega, by go_num, HGD.out hs, HB3.out⟩
        case measure => simp [intOf]; omega
      · have hs : someB cs xs = false := by rw [← hct]; simp [h2]
        have hne : (M != 2) = true := by simpa using h2
        go_wp2_with fail
        refine hcon.mono ?_
        rintro e w2 ⟨rfl, hb2⟩
        have HB3 : Hid (Below w.heap.size w w2) := HBB.out.trans (hb2.mono (by simp; omega))
        clear hb2 hcon hbr hcl
        go_wp2
        go_ret
        exact ⟨ret_bool (HBD.out hs), HB3.out⟩
    · have hkk : k = wh.length := by omega
      subst hkk
      rw [List.take_length] at HP
      have HPP : Hid (true = holdsB wh xs) := HP.out.symm
      clear HP
      go_wp2
      go_ret
      exact ⟨ret_bool HPP.out, hbr⟩

set_option maxRecDepth 20000 in
set_option maxHeartbeats 8000000 in
/-- The closure that Filter is handed. -/
theorem keep_any (q : QueryV) (bq : Nat) (ao : Option Addr) (cap : Nat) (xs : List Int) (w : World) (hc : w.cell? ⟨bq, 1, none⟩ = some (.slice q.wad q.wh.length q.wcap)) (hx : IntsAt w ao xs) (hq : ClausesAt w q.wad q.wh)
    (hcs : ∀ i, i < q.wh.length → ∀ k, k < (q.wh.getD i lz).cs.length → condB ((q.wh.getD i lz).cs.getD k cz) xs.length = true) :
    Calls Tryz.prog 41 #[.slice ao xs.length cap, .pointer (some ⟨bq, 0, none⟩)] w fun e w' => e = .returned (.bool (holdsB q.wh xs)) ∧ Below w.heap.size w w' := by
  have hcon := holds_any q.wad q.wcap q.wh ao cap xs w hx hq hcs
  go_enter Tryz.func41, Tryz.ntmps41
  go_wp2_with fail
  refine hcon.mono ?_
  rintro e w2 ⟨rfl, hb2⟩
  go_wp2
  go_ret
  exact ⟨rfl, hb2⟩

end Go.Proofs.YtlpbelhfpoilpaaGreat

