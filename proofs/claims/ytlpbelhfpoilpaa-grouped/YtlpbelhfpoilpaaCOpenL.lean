import Derived.Test.YtlpbelhfpoilpaaCRefEChecksOpenOpenQ
import Derived.Test.YtlpbelhfpoilpaaCGrD
set_option linter.all false
namespace Go.Proofs.Ytlpbelhfpoilpaa
open Go.ChangeShapes Go.WideShapes Go.ChangeAt Go.RowKit Go.Scout

theorem wf64 {n : Int} (h : (Lit.int .i64 n).wf = true) : -9223372036854775808 ≤ n ∧ n ≤ 9223372036854775807 := by
  have h1 : (decide (IntKind.i64.min ≤ n) && decide (n ≤ IntKind.i64.max)) = true := h
  rw [Bool.and_eq_true, decide_eq_true_eq, decide_eq_true_eq] at h1
  have e1 : IntKind.i64.min = -9223372036854775808 := by decide
  have e2 : IntKind.i64.max = 9223372036854775807 := by decide
  rw [e1, e2] at h1
  exact h1

set_option maxRecDepth 20000 in
theorem openList {H : Type} {enc : TypeId × Value → H} {w : World} {spare : Nat → Bool} {held : Bool} {fuel base : Nat} {v : Value} {x : DataW H × List MemPlace} (h : DataW.trod enc Try.prog w 0 spare held fuel 23 [v] = some x) (hv : Value.okWide Try.prog w .any base 23 v) (hw : ∀ n ∈ x.1.weights Try.prog 23, n ≤ reachBytes) :
    ∃ (lo : Option Addr) (lc : Nat) (l : List Int), v = .slice lo l.length lc ∧ IntsAt w lo l ∧ (∀ x ∈ l, -9223372036854775808 ≤ x ∧ x ≤ 9223372036854775807) ∧ ∀ a, lo = some a → a.block < w.heap.size := by
  obtain ⟨iv, rfl, hA, _⟩ := openInts h hw
  obtain ⟨lo, lc, l⟩ := iv
  refine ⟨lo, lc, l, rfl, hA, ?_, ?_⟩
  · rcases open_ints Try.underlying23 Try.underlying3 Try.cells3 h with ⟨hcs, _⟩ | ⟨a, len, cap, zs, hcs, _, hl, _, hz, _, hcell, hwf⟩
    · have e : Value.slice lo l.length lc = Value.slice none 0 0 := by simpa [IntsV.val] using hcs
      rw [Value.slice.injEq] at e
      obtain ⟨e1, e2, e3⟩ := e
      obtain rfl : l = [] := List.eq_nil_of_length_eq_zero e2
      intro x hx
      simp at hx
    · have e : Value.slice lo l.length lc = Value.slice (some a) len cap := by simpa [IntsV.val] using hcs
      rw [Value.slice.injEq] at e
      obtain ⟨e1, e2, e3⟩ := e
      subst e1 e2
      intro x hx
      obtain ⟨i, hi, rfl⟩ := List.getElem_of_mem hx
      have hlz : l.length ≤ zs.length := by rw [hz]; split <;> omega
      obtain ⟨b, off, e, hc⟩ := hA.2 i hi
      have e' : a = ⟨b, off, none⟩ := by injection e
      subst e'
      have hc2 := hcell i (by omega)
      rw [addr_add'] at hc2
      have hc' : w.cell? ⟨b, off + i, none⟩ = some (.int .i64 (l.getD i 0)) := hc
      rw [hc'] at hc2
      have e3' : l.getD i 0 = zs.getD i 0 := by rw [Option.some.injEq, Value.int.injEq] at hc2; exact hc2.2
      have e4 : l.getD i 0 = l[i] := by simp [List.getD, hi]
      have hm : zs.getD i 0 ∈ zs := getD_in (by omega)
      rw [← e4, e3']
      exact wf64 (hwf _ hm)
  · intro a ha
    have ha' : lo = some a := ha
    subst ha'
    simp only [Value.okWide, Cell.okWide, IntsV.val, Try.underlying23, Cell.ok] at hv
    have h3 := hv.2.2
    unfold World.has at h3
    obtain ⟨_, _, row, cells, hsh, _⟩ := h3
    unfold World.shape? at hsh
    by_cases hlt : a.block < w.heap.size
    · exact hlt
    · rw [Array.getElem?_eq_none (by omega)] at hsh
      simp at hsh

end Go.Proofs.Ytlpbelhfpoilpaa

