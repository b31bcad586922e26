import Derived.Test.YtpkihnafdaedoaaBase3
import Derived.Deep.QuietTactic
import Derived.BigQuiet
import Derived.WalkSmall
namespace Go.Scout
open Go.RowKit

/-- A region that draws its order, whose operations read and call what only makes memory: one walk of the text's order serves, every operation quiet in the worlds that keep what is there. -/
theorem wp_region_below {P : Program} {id : Nat} {Q : Exit → Act → World → Prop} {a : Act} {w : World} {l : List Oper} (hm : P.follows .mixedOrders = true) (hB : Region.lexB .any l.toArray = true)
    (h : wpQuiet P l.toArray (fun x => Below w.heap.size w x) (fun a' => ∀ x, Below w.heap.size w x → Q .normal a' x) l a) : (Code.region id l.toArray true).wp P Q a w :=
  wp_region_quiet (C := fun x => Below w.heap.size w x) hm hB (Below.refl _ _).drew (by simpa using h)

theorem Calls.within {P : Program} {f : FuncId} {args : Array Value} {w x : World} {v : Value} (hx : Below w.heap.size w x)
    (h : Calls P f args x fun e w' => e = .returned v ∧ Below x.heap.size x w') : Calls P f args x fun e w'' => e = .returned v ∧ Below w.heap.size w w'' :=
  h.mono fun _ _ ⟨he, hb⟩ => ⟨he, Below.step hx hb⟩

theorem Calls.within_same {P : Program} {f : FuncId} {args : Array Value} {w x : World} {v : Value} (hx : Below w.heap.size w x)
    (h : Calls P f args x fun e w' => e = .returned v ∧ w' = x) : Calls P f args x fun e w'' => e = .returned v ∧ Below w.heap.size w w'' :=
  h.mono fun _ _ ⟨he, hb⟩ => ⟨he, by rw [hb]; exact hx⟩

theorem Calls.drawn {P : Program} {f : FuncId} {args : Array Value} {w : World} {v : Value}
    (h : Calls P f args w fun e w' => e = .returned v ∧ ∃ n, w' = w.drewN n) : Calls P f args w fun e w' => e = .returned v ∧ Below w.heap.size w w' :=
  h.mono fun _ _ ⟨he, n, hn⟩ => ⟨he, by rw [hn]; exact below_drewN (Below.refl _ _) n⟩

section
variable {N : Int} {group : Bool} {keys sums sel ord : List Int}

theorem rest_sel (h : ¬ allB sel N = true) : restB N group keys sums sel ord = false := by
  have : allB sel N = false := by simpa using h
  simp [restB, this]
theorem rest_keys (h : ¬ allB keys N = true) : restB N group keys sums sel ord = false := by
  have : allB keys N = false := by simpa using h
  simp [restB, this]
theorem rest_sums (h : ¬ allB sums N = true) : restB N group keys sums sel ord = false := by
  have : allB sums N = false := by simpa using h
  simp [restB, this]
theorem rest_ord (h : ¬ allB ord (outN group keys sums sel) = true) : restB N group keys sums sel ord = false := by
  have : allB ord (outN group keys sums sel) = false := by simpa using h
  simp [restB, this]
theorem rest_ak (h : ¬ apartB keys = true) : restB N group keys sums sel ord = false := by
  have : apartB keys = false := by simpa using h
  simp [restB, this]
theorem rest_ao (h : ¬ apartB ord = true) : restB N group keys sums sel ord = false := by
  have : apartB ord = false := by simpa using h
  simp [restB, this]
theorem eq0_len : ((sel.length : Int) == 0) = decide (sel.length = 0) := by
  rw [Bool.eq_iff_iff]
  simp
theorem rest_grp (h : ¬ group = ((sel.length : Int) == 0)) : restB N group keys sums sel ord = false := by
  rw [eq0_len] at h
  have : (group == decide (sel.length = 0)) = false := by simpa using h
  unfold restB
  rw [this, Bool.and_false, Bool.false_and]
theorem rest_ks (hg : group = ((sel.length : Int) == 0)) (h : (!((sel.length : Int) == 0)) = true ∧ 0 < (keys.length : Int) + sums.length) : restB N group keys sums sel ord = false := by
  have h1 : group = false := by rw [hg]; simpa using h.1
  have h2 : decide (keys.length + sums.length = 0) = false := decide_eq_false (by omega)
  unfold restB
  rw [h1, h2, Bool.or_false, Bool.and_false]
theorem rest_ok (a1 : allB sel N = true) (a2 : allB keys N = true) (a3 : allB sums N = true) (a4 : allB ord (outN group keys sums sel) = true) (a5 : apartB keys = true) (a6 : apartB ord = true)
    (hg : group = ((sel.length : Int) == 0)) (h : group = true ∨ keys.length + sums.length = 0) : restB N group keys sums sel ord = true := by
  rw [eq0_len] at hg
  unfold restB
  rw [a1, a2, a3, a4, a5, a6, ← hg]
  rcases h with h | h
  · simp [h]
  · rw [decide_eq_true h, Bool.or_true]; simp
theorem rest_ok1 (a1 : allB sel N = true) (a2 : allB keys N = true) (a3 : allB sums N = true) (a4 : allB ord (outN group keys sums sel) = true) (a5 : apartB keys = true) (a6 : apartB ord = true)
    (hg : group = ((sel.length : Int) == 0)) (h : sel = []) : restB N group keys sums sel ord = true :=
  rest_ok a1 a2 a3 a4 a5 a6 hg (.inl (by rw [hg, h]; rfl))
theorem rest_ok2 (a1 : allB sel N = true) (a2 : allB keys N = true) (a3 : allB sums N = true) (a4 : allB ord (outN group keys sums sel) = true) (a5 : apartB keys = true) (a6 : apartB ord = true)
    (hg : group = ((sel.length : Int) == 0)) (h : (!((sel.length : Int) == 0)) = false ∨ (keys.length : Int) + sums.length ≤ 0) : restB N group keys sums sel ord = true :=
  rest_ok a1 a2 a3 a4 a5 a6 hg (by
    rcases h with h | h
    · left; rw [hg]; simpa using h
    · right; omega)
end

/-- What IndexFunc hands back: not below 0 just where one is found. -/
def foundAt (r : Int) (b : Bool) : Prop := -1 ≤ r ∧ decide (0 ≤ r) = b

theorem any_at {α : Type} {p : α → Bool} {xs : List α} {k : Nat} {z : α} (hk : k < xs.length) (h : p (xs.getD k z) = true) : xs.any p = true := by
  rw [List.any_eq_true]
  exact ⟨xs[k], List.getElem_mem hk, by simpa [List.getD, hk] using h⟩

theorem any_none {α : Type} {p : α → Bool} {xs : List α} {z : α} (h : ∀ k, k < xs.length → p (xs.getD k z) = false) : xs.any p = false := by
  rw [List.any_eq_false]
  intro x hx
  obtain ⟨k, hk, rfl⟩ := List.getElem_of_mem hx
  have := h k hk
  simpa [List.getD, hk] using this

theorem catB_any {ts : List TableD} (h1 : ¬ ts.length < 1) (h8 : ¬ 8 < ts.length) : (!(ts.any fun t => !tableB t)) = catB ts := by
  unfold catB
  rw [decide_eq_true (show 1 ≤ ts.length by omega), decide_eq_true (show ts.length ≤ 8 by omega), List.not_any_eq_all_not]
  simp

def inB (x n : Int) : Bool := decide (0 ≤ x) && decide (x < n)

theorem allB_any (xs : List Int) (n : Int) : (!(xs.any fun x => !inB x n)) = allB xs n := by
  unfold allB inB
  rw [List.not_any_eq_all_not]
  simp

theorem wide_any (ls : List ClauseV) : (ls.any fun c => decide (3 < c.cs.length)) = wideB ls ls.length := by
  unfold wideB
  rw [List.take_length]

theorem QueryV.full_eq (q : QueryV) : fullB q.src.xs q.whs q.keys.xs q.sums.xs q.sel.xs q.ord.xs =
    (decide (5 < q.src.xs.length ∨ 8 < q.wh.length ∨ 8 < q.sel.xs.length ∨ 4 < q.keys.xs.length ∨ 4 < q.sums.xs.length ∨ 4 < q.ord.xs.length) || wideB q.wh q.wh.length) := by
  unfold fullB
  rw [wideB_all]
  simp [QueryV.whs]

theorem condB_in {c : CondD} {n : Int} (h : inB c.left n = false) : false = condB c n := by
  refine (Bool.eq_false_iff.2 ?_).symm
  intro h'
  simp only [condB, Bool.and_eq_true, decide_eq_true_eq] at h'
  simp only [inB, Bool.and_eq_false_iff, decide_eq_false_iff_not] at h
  omega
theorem condB_eqless_const {c : CondD} {n : Int} (h : inB c.left n = true) (ho : c.op = 0 ∨ c.op = 1) (hc : c.const = true) : (decide (-1000 ≤ c.right) && decide (c.right ≤ 1000)) = condB c n := by
  simp only [inB, Bool.and_eq_true, decide_eq_true_eq] at h
  unfold condB
  rw [if_neg (by omega), if_pos hc, decide_eq_true h.1, decide_eq_true h.2, decide_eq_true (show 0 ≤ c.op by omega), decide_eq_true (show c.op ≤ 2 by omega)]
  simp
theorem condB_eqless_col {c : CondD} {n : Int} (h : inB c.left n = true) (ho : c.op = 0 ∨ c.op = 1) (hc : c.const = false) : inB c.right n = condB c n := by
  simp only [inB, Bool.and_eq_true, decide_eq_true_eq] at h
  unfold condB
  rw [if_neg (by omega), if_neg (by simp [hc]), decide_eq_true h.1, decide_eq_true h.2, decide_eq_true (show 0 ≤ c.op by omega), decide_eq_true (show c.op ≤ 2 by omega)]
  simp only [inB, Bool.and_self, Bool.true_and]
  congr 1
  exact decide_eq_decide.2 (by omega)
theorem condB_isnil {c : CondD} {n : Int} (h : inB c.left n = true) (ho : c.op = 2) : (!c.const && decide (c.right = 0)) = condB c n := by
  simp only [inB, Bool.and_eq_true, decide_eq_true_eq] at h
  unfold condB
  rw [if_pos ho, decide_eq_true h.1, decide_eq_true h.2, decide_eq_true (show 0 ≤ c.op by omega), decide_eq_true (show c.op ≤ 2 by omega)]
  simp
theorem condB_other {c : CondD} {n : Int} (h0 : ¬ c.op = 0) (h1 : ¬ c.op = 1) (h2 : ¬ c.op = 2) : false = condB c n := by
  refine (Bool.eq_false_iff.2 ?_).symm
  intro h'
  simp only [condB, Bool.and_eq_true, decide_eq_true_eq] at h'
  omega

end Go.Scout
