import Derived.Test.YtpkihnafdaedoaaBase2
namespace Go.Scout
open Go.RowKit

theorem cell_below {w w' : World} (hb : Below w.heap.size w w') {b o : Nat} {v : Value} (h : w.cell? ⟨b, o, none⟩ = some v) : w'.cell? ⟨b, o, none⟩ = some v :=
  (hb.cell (p := ⟨b, o, none⟩) (lt_of_cell h)).trans h

theorem CellsAt.below {w w' : World} (hb : Below w.heap.size w w') {ao : Option Addr} {n : Nat} {f : Nat → Value} (h : CellsAt w ao n f) : CellsAt w' ao n f := fun i hi => by
  obtain ⟨b, off, e, hc⟩ := h i hi
  exact ⟨b, off, e, cell_below hb hc⟩

theorem IntsAt.below {w w' : World} (hb : Below w.heap.size w w') {ao : Option Addr} {xs : List Int} (h : IntsAt w ao xs) : IntsAt w' ao xs := ⟨h.1, h.2.below hb⟩

theorem TablesAt.below {w w' : World} (hb : Below w.heap.size w w') {ao : Option Addr} {ts : List TableD} (h : TablesAt w ao ts) : TablesAt w' ao ts := ⟨h.1, fun i hi => by
  obtain ⟨b, off, e, c0, c1, c2, c3, c4, c5⟩ := h.2 i hi
  exact ⟨b, off, e, cell_below hb c0, cell_below hb c1, cell_below hb c2, cell_below hb c3, cell_below hb c4, cell_below hb c5⟩⟩

theorem CondsAt.below {w w' : World} (hb : Below w.heap.size w w') {ao : Option Addr} {cs : List CondD} (h : CondsAt w ao cs) : CondsAt w' ao cs := ⟨h.1, fun i hi => by
  obtain ⟨b, off, e, c0, c1, c2, c3, c4⟩ := h.2 i hi
  exact ⟨b, off, e, cell_below hb c0, cell_below hb c1, cell_below hb c2, cell_below hb c3, cell_below hb c4⟩⟩

theorem ClausesAt.below {w w' : World} (hb : Below w.heap.size w w') {ao : Option Addr} {ls : List ClauseV} (h : ClausesAt w ao ls) : ClausesAt w' ao ls :=
  ⟨h.1, h.2.1.below hb, fun i hi => (h.2.2 i hi).below hb⟩

theorem QueryV.At.below {w w' : World} (hb : Below w.heap.size w w') {q : QueryV} (h : q.At w) : q.At w' :=
  ⟨IntsAt.below hb h.src, h.wh.below hb, IntsAt.below hb h.keys, IntsAt.below hb h.sums, IntsAt.below hb h.sel, IntsAt.below hb h.ord⟩

theorem below_alloc (w : World) (o : Obj) : Below w.heap.size w (w.alloc o) := (Below.refl _ _).alloc (Nat.le_refl _) o

/-- Two steps, each below its own start. -/
theorem Below.step {w w1 w2 : World} (h : Below w.heap.size w w1) (k : Below w1.heap.size w1 w2) : Below w.heap.size w w2 := h.trans (k.mono h.size)

theorem bcell {W w1 : World} (hb : Below W.heap.size W w1) : (∀ b o, b < W.heap.size → w1.cell? ⟨b, o, none⟩ = W.cell? ⟨b, o, none⟩) :=
  fun b o h => hb.cell (p := ⟨b, o, none⟩) h

/-! What Check answers. -/

def fullB (src : List Int) (wh : List (List CondD)) (keys sums sel ord : List Int) : Bool :=
  decide (5 < src.length ∨ 8 < wh.length ∨ 8 < sel.length ∨ 4 < keys.length ∨ 4 < sums.length ∨ 4 < ord.length) || wh.any (fun c => decide (3 < c.length))
def clauseB (c : List CondD) (n : Int) : Bool := decide (0 < c.length) && c.all (fun x => condB x n)
def clausesB (wh : List (List CondD)) (n : Int) : Bool := wh.all (fun c => clauseB c n)
def restB (n : Int) (group : Bool) (keys sums sel ord : List Int) : Bool :=
  allB sel n && allB keys n && allB sums n && allB ord (outN group keys sums sel) && apartB keys && apartB ord && (group == decide (sel.length = 0)) && (group || decide (keys.length + sums.length = 0))
def checkN (ts : List TableD) (src : List Int) (wh : List (List CondD)) (group : Bool) (keys sums sel ord : List Int) : Int :=
  if catB ts = false then 1
  else if fullB src wh keys sums sel ord = true then 2
  else if allB src ts.length = true ∧ 0 < src.length ∧ clausesB wh (widthN ts src) = true ∧ restB (widthN ts src) group keys sums sel ord = true then 0
  else 3
def QueryV.whs (q : QueryV) : List (List CondD) := q.wh.map ClauseV.cs
def QueryV.check (q : QueryV) (ts : List TableD) : Int := checkN ts q.src.xs q.whs q.group q.keys.xs q.sums.xs q.sel.xs q.ord.xs

theorem QueryV.check_cat {q : QueryV} {ts : List TableD} (h : catB ts = false) : (1 : Int) = q.check ts := by
  unfold QueryV.check checkN
  rw [if_pos h]

theorem fullB_of {src : List Int} {wh : List (List CondD)} {keys sums sel ord : List Int} (h : 5 < src.length ∨ 8 < wh.length ∨ 8 < sel.length ∨ 4 < keys.length ∨ 4 < sums.length ∨ 4 < ord.length) : fullB src wh keys sums sel ord = true := by
  unfold fullB
  rw [decide_eq_true h, Bool.true_or]

theorem QueryV.check_full {q : QueryV} {ts : List TableD} (h : catB ts = true) (hf : fullB q.src.xs q.whs q.keys.xs q.sums.xs q.sel.xs q.ord.xs = true) : (2 : Int) = q.check ts := by
  unfold QueryV.check checkN
  rw [if_neg (by simp [h]), if_pos hf]

theorem val_bool {a b : Bool} (h : a = b) : Value.bool a = .bool b := by rw [h]
theorem val_boolI {a b : Bool} (h : a = true ↔ b = true) : Value.bool a = .bool b := by rw [Bool.eq_iff_iff.2 h]

theorem fullB_any {src : List Int} {wh : List (List CondD)} {keys sums sel ord : List Int} (h : wh.any (fun c => decide (3 < c.length)) = true) : fullB src wh keys sums sel ord = true := by
  unfold fullB
  rw [h, Bool.or_true]

theorem fullB_no {src : List Int} {wh : List (List CondD)} {keys sums sel ord : List Int} (h : ¬ (5 < src.length ∨ 8 < wh.length ∨ 8 < sel.length ∨ 4 < keys.length ∨ 4 < sums.length ∨ 4 < ord.length))
    (h' : wh.any (fun c => decide (3 < c.length)) = false) : fullB src wh keys sums sel ord = false := by
  unfold fullB
  rw [h', decide_eq_false h]
  rfl

/-- Some clause of the first k has too many conditions. -/
def wideB (ls : List ClauseV) (k : Nat) : Bool := (ls.take k).any (fun c => decide (3 < c.cs.length))

theorem wideB_zero (ls : List ClauseV) : wideB ls 0 = false := by simp [wideB]
theorem wideB_succ {ls : List ClauseV} {k : Nat} (hk : k < ls.length) : wideB ls (k + 1) = (wideB ls k || decide (3 < (ls.getD k lz).cs.length)) := by
  unfold wideB
  rw [List.take_succ_eq_append_getElem hk, List.any_append]
  simp [List.getD, hk]
theorem wideB_all (q : QueryV) : q.whs.any (fun c => decide (3 < c.length)) = wideB q.wh q.wh.length := by
  unfold wideB QueryV.whs
  rw [List.take_length, List.any_map]
  rfl
theorem wideB_mono {ls : List ClauseV} {k : Nat} (hk : k < ls.length) (h : wideB ls ls.length = false) : (ls.getD k lz).cs.length ≤ 3 := by
  unfold wideB at h
  rw [List.take_length, List.any_eq_false] at h
  have := h (ls.getD k lz) (by simp [List.getD, hk])
  simpa using this

theorem QueryV.check_bad {q : QueryV} {ts : List TableD} (h : catB ts = true) (hf : fullB q.src.xs q.whs q.keys.xs q.sums.xs q.sel.xs q.ord.xs = false)
    (hr : ¬ (allB q.src.xs ts.length = true ∧ 0 < q.src.xs.length ∧ clausesB q.whs (widthN ts q.src.xs) = true ∧ restB (widthN ts q.src.xs) q.group q.keys.xs q.sums.xs q.sel.xs q.ord.xs = true)) : (3 : Int) = q.check ts := by
  unfold QueryV.check checkN
  rw [if_neg (by simp [h]), if_neg (by simp [hf]), if_neg hr]

theorem QueryV.check_ok {q : QueryV} {ts : List TableD} (h : catB ts = true) (hf : fullB q.src.xs q.whs q.keys.xs q.sums.xs q.sel.xs q.ord.xs = false)
    (hr : allB q.src.xs ts.length = true ∧ 0 < q.src.xs.length ∧ clausesB q.whs (widthN ts q.src.xs) = true ∧ restB (widthN ts q.src.xs) q.group q.keys.xs q.sums.xs q.sel.xs q.ord.xs = true) : (0 : Int) = q.check ts := by
  unfold QueryV.check checkN
  rw [if_neg (by simp [h]), if_neg (by simp [hf]), if_pos hr]

theorem clausesB_bad {q : QueryV} {n : Int} {k : Nat} (hk : k < q.wh.length) (h : clauseB (q.wh.getD k lz).cs n = false) : clausesB q.whs n = false := by
  unfold clausesB QueryV.whs
  rw [List.all_map, List.all_eq_false]
  refine ⟨q.wh[k], List.getElem_mem hk, ?_⟩
  simp [List.getD, hk] at h
  simp [h]

theorem clausesB_good {q : QueryV} {n : Int} (h : ∀ k, k < q.wh.length → clauseB (q.wh.getD k lz).cs n = true) : clausesB q.whs n = true := by
  unfold clausesB QueryV.whs
  rw [List.all_map, List.all_eq_true]
  intro c hc
  obtain ⟨k, hk, rfl⟩ := List.getElem_of_mem hc
  have := h k hk
  simpa [List.getD, hk] using this

theorem clauseB_none {c : List CondD} {n : Int} (h : ¬ 0 < c.length) : clauseB c n = false := by
  unfold clauseB
  rw [decide_eq_false h, Bool.false_and]

theorem clauseB_bad {c : List CondD} {n : Int} {k : Nat} (hk : k < c.length) (h : condB (c.getD k cz) n = false) : clauseB c n = false := by
  unfold clauseB
  have : c.all (fun x => condB x n) = false := by
    rw [List.all_eq_false]
    refine ⟨c[k], List.getElem_mem hk, ?_⟩
    simp [List.getD, hk] at h
    simp [h]
  rw [this, Bool.and_false]

theorem clauseB_good {c : List CondD} {n : Int} (h0 : 0 < c.length) (h : ∀ k, k < c.length → condB (c.getD k cz) n = true) : clauseB c n = true := by
  unfold clauseB
  rw [decide_eq_true h0, Bool.true_and, List.all_eq_true]
  intro x hx
  obtain ⟨k, hk, rfl⟩ := List.getElem_of_mem hx
  have := h k hk
  simpa [List.getD, hk] using this

end Go.Scout
