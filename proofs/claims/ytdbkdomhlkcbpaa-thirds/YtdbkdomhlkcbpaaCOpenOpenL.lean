import Derived.Test.YtdbkdomhlkcbpaaProg
import Derived.ProofKit
import Derived.OpenShut
import Derived.Deep.Slices
import Derived.SizedLaws
import Derived.Test.YtdbkdomhlkcbpaaCBaseBase2Base3Base4
import Derived.Test.YtdbkdomhlkcbpaaCGrD
set_option linter.all false
namespace Go.Proofs.Ytdbkdomhlkcbpaa
open Go.RowKit Go.Scout Go.Deep Go.ChangeShapes Go.WideShapes Go.ChangeAt

theorem Try.cells3 : Try.prog.cellsOf 3 = 1 := by kernel_rfl
theorem Try.cells4 : Try.prog.cellsOf 4 = 1 := by kernel_rfl
theorem Try.cells23 : Try.prog.cellsOf 23 = 1 := by kernel_rfl
theorem Try.cells47 : Try.prog.cellsOf 47 = 1 := by kernel_rfl
theorem Try.cells24 : Try.prog.cellsOf 24 = 1 := by kernel_rfl
theorem Try.cells68 : Try.prog.cellsOf 68 = 1 := by kernel_rfl
theorem Try.cells58 : Try.prog.cellsOf 58 = 4 := by kernel_rfl
theorem Try.cells60 : Try.prog.cellsOf 60 = 6 := by kernel_rfl
theorem Try.cells46 : Try.prog.cellsOf 46 = 5 := by kernel_rfl
theorem Try.cells26 : Try.prog.cellsOf 26 = 7 := by kernel_rfl
theorem Try.bytes3 : Try.prog.bytesOf 3 = 8 := by kernel_rfl
theorem Try.bytes60 : Try.prog.bytesOf 60 = 48 := by kernel_rfl
theorem Try.bytes46 : Try.prog.bytesOf 46 = 40 := by kernel_rfl
theorem Try.bytes68 : Try.prog.bytesOf 68 = 24 := by kernel_rfl

variable {H : Type} {enc : TypeId × Value → H} {w : World} {spare : Nat → Bool} {held : Bool} {fuel : Nat}

theorem addr_none {a : Addr} {v : Value} (h : w.cell? (a.add 0) = some v) : ∃ b off, a = ⟨b, off, none⟩ := by
  obtain ⟨b, off, spot⟩ := a
  have hs : spot = none := by
    have := World.cell?_spot h
    simpa [Addr.add] using this
  subst hs
  exact ⟨b, off, rfl⟩

theorem addr_add' (b off j : Nat) : (⟨b, off, none⟩ : Addr).add j = ⟨b, off + j, none⟩ := by unfold Addr.add; split <;> simp_all

theorem openInts {v : Value} {x : DataW H × List MemPlace} (h : DataW.trod enc Try.prog w 0 spare held fuel 23 [v] = some x) (hw : ∀ n ∈ x.1.weights Try.prog 23, n ≤ reachBytes) :
    ∃ iv : IntsV, v = iv.val ∧ iv.At w ∧ iv.xs.length * 8 ≤ 140737488351232 := by
  rcases open_ints Try.underlying23 Try.underlying3 Try.cells3 h with ⟨hcs, _⟩ | ⟨a, len, cap, zs, hcs, _, hl, hm, hz, hx, hcell, _⟩
  · simp at hcs
    subst hcs
    exact ⟨⟨none, 0, []⟩, rfl, ⟨by simp, fun i hi => absurd hi (by simp)⟩, by simp⟩
  · simp at hcs
    subst hcs
    have hlz : len ≤ zs.length := by rw [hz]; split <;> omega
    have hlen : (zs.take len).length = len := by rw [List.length_take]; omega
    have hb : len * 8 ≤ 140737488351232 := by
      have h2 := hw (((lits IntKind.i64 (zs.take len) : List (DataW H)).length + (lits IntKind.i64 (zs.drop len) : List (DataW H)).length) * Try.prog.bytesOf 3) (by rw [hx]; simp [DataW.weights, Try.underlying23])
      rw [Try.bytes3] at h2
      simp only [lits, List.length_map, List.length_take, List.length_drop, reachBytes] at h2
      omega
    refine ⟨⟨some a, cap, zs.take len⟩, ?_, ⟨by show (zs.take len).length ≤ _; omega, fun i hi => ?_⟩, ?_⟩
    · show _ = Value.slice (some a) (zs.take len).length cap
      rw [hlen]
    · have hi' : i < len := by
        have : i < (zs.take len).length := hi
        omega
      have hc := hcell i (by omega)
      obtain ⟨b, off, rfl⟩ := addr_none (hcell 0 (by omega))
      refine ⟨b, off, rfl, ?_⟩
      rw [addr_add'] at hc
      rw [hc]
      simp [List.getD, hi']
    · show (zs.take len).length * 8 ≤ _
      omega

theorem list3 {α : Type} {l : List α} (h : l.length = 3) : ∃ a b c, l = [a, b, c] := by
  match l, h with
  | [a, b, c], _ => exact ⟨a, b, c, rfl⟩
theorem list4 {α : Type} {l : List α} (h : l.length = 4) : ∃ a b c d, l = [a, b, c, d] := by
  match l, h with
  | [a, b, c, d], _ => exact ⟨a, b, c, d, rfl⟩
theorem list5 {α : Type} {l : List α} (h : l.length = 5) : ∃ a b c d e, l = [a, b, c, d, e] := by
  match l, h with
  | [a, b, c, d, e], _ => exact ⟨a, b, c, d, e, rfl⟩
theorem list6 {α : Type} {l : List α} (h : l.length = 6) : ∃ a b c d e f, l = [a, b, c, d, e, f] := by
  match l, h with
  | [a, b, c, d, e, f], _ => exact ⟨a, b, c, d, e, f, rfl⟩
theorem list7 {α : Type} {l : List α} (h : l.length = 7) : ∃ a b c d e f g, l = [a, b, c, d, e, f, g] := by
  match l, h with
  | [a, b, c, d, e, f, g], _ => exact ⟨a, b, c, d, e, f, g, rfl⟩

theorem getD_range {α : Type} (f : Nat → α) (n i : Nat) (z : α) (h : i < n) : ((List.range n).map f).getD i z = f i := by simp [List.getD, h]

theorem openTables {v : Value} {x : DataW H × List MemPlace} (h : DataW.trod enc Try.prog w 0 spare held fuel 22 [v] = some x) (hw : ∀ n ∈ x.1.weights Try.prog 22, n ≤ reachBytes) :
    ∃ ao cap ts, v = .slice ao (List.length ts) cap ∧ TablesAt w ao ts ∧ ts.length * 48 ≤ 140737488351232 := by
  rcases open_slice Try.underlying22 h with ⟨hcs, _⟩ | ⟨a, len, cap, m, n, D, Pl, hcs, _, hl, hm, hmm, hx, hel⟩
  · simp at hcs
    subst hcs
    exact ⟨none, 0, [], rfl, ⟨by simp, fun i hi => absurd hi (by simp)⟩, by simp⟩
  · simp at hcs
    subst hcs
    have hlm : len ≤ m := by rw [hmm]; split <;> omega
    have hb : len * 48 ≤ 140737488351232 := by
      have h2 := hw ((((List.range len).map D).length + ((List.range (m - len)).map fun j => D (len + j)).length) * Try.prog.bytesOf 60) (by rw [hx]; simp [DataW.weights, Try.underlying22])
      rw [Try.bytes60] at h2
      simp only [List.length_map, List.length_range, reachBytes] at h2
      omega
    have each : ∀ i, i < len → ∃ t : TableD, w.cell? ((a.add (i * 6)).add 0) = some (.int .i64 t.cols) ∧ w.cell? ((a.add (i * 6)).add 1) = some (.int .i64 t.rows) ∧ w.cell? ((a.add (i * 6)).add 2) = some (.int .i64 t.k0) ∧
        w.cell? ((a.add (i * 6)).add 3) = some (.int .i64 t.k1) ∧ w.cell? ((a.add (i * 6)).add 4) = some (.int .i64 t.k2) ∧ w.cell? ((a.add (i * 6)).add 5) = some (.int .i64 t.k3) := by
      intro i hi
      obtain ⟨cs', h1, h2⟩ := hel i (by omega)
      rw [Try.cells60] at h1
      obtain ⟨_, hlen, hcell⟩ := World.cells?_some h1
      obtain ⟨xs, k, hk, hxy, _, hxl, hf⟩ := DataW.trod_struct Try.underlying60 h2
      obtain ⟨y0, y1, y2, rfl⟩ := list3 hxl
      obtain ⟨v0, v1, v2, v3, v4, v5, rfl⟩ := list6 hlen
      · skip
        have q0 := hf 0 _ rfl
        have q1 := hf 1 _ rfl
        have q2 := hf 2 _ rfl
        simp [Try.cells3, Try.cells58] at q0 q1 q2
        obtain ⟨n0, e0, _, _⟩ := DataW.trod_int Try.underlying3 q0
        obtain ⟨n1, e1, _, _⟩ := DataW.trod_int Try.underlying3 q1
        obtain ⟨zs, k2, _, _, _, hzl, hz⟩ := DataW.trod_array Try.underlying58 q2
        obtain ⟨z0, z1, z2, z3, rfl⟩ := list4 hzl
        · skip
          have r0 := hz 0 (by omega)
          have r1 := hz 1 (by omega)
          have r2 := hz 2 (by omega)
          have r3 := hz 3 (by omega)
          simp [Try.cells3] at r0 r1 r2 r3
          obtain ⟨n2, e2, _, _⟩ := DataW.trod_int Try.underlying3 r0
          obtain ⟨n3, e3, _, _⟩ := DataW.trod_int Try.underlying3 r1
          obtain ⟨n4, e4, _, _⟩ := DataW.trod_int Try.underlying3 r2
          obtain ⟨n5, e5, _, _⟩ := DataW.trod_int Try.underlying3 r3
          simp at e0 e1 e2 e3 e4 e5
          subst e0 e1 e2 e3 e4 e5
          exact ⟨⟨n0, n1, n2, n3, n4, n5⟩, hcell 0 (by omega), hcell 1 (by omega), hcell 2 (by omega), hcell 3 (by omega), hcell 4 (by omega), hcell 5 (by omega)⟩
    haveI : Inhabited TableD := ⟨tz⟩
    obtain ⟨T, hT⟩ := choose_lt (α := TableD) each
    have hlen : ((List.range len).map T).length = len := by simp
    refine ⟨some a, cap, (List.range len).map T, by rw [hlen], ⟨by omega, fun i hi => ?_⟩, by omega⟩
    have hi' : i < len := by omega
    have h0 := (hT 0 (by omega)).1
    have ha : ∃ b off, a = ⟨b, off, none⟩ := by
      rw [Nat.zero_mul] at h0
      have e : (a.add 0).add 0 = a.add 0 := by simp [Addr.add]
      rw [e] at h0
      exact addr_none h0
    obtain ⟨b, off, rfl⟩ := ha
    have ht := hT i hi'
    simp only [addr_add', Nat.add_zero] at ht
    rw [getD_range T len i tz hi']
    exact ⟨b, off, rfl, ht⟩

theorem openConds {v : Value} {x : DataW H × List MemPlace} (h : DataW.trod enc Try.prog w 0 spare held fuel 47 [v] = some x) (hw : ∀ n ∈ x.1.weights Try.prog 47, n ≤ reachBytes) :
    ∃ c : ClauseV, v = c.val ∧ CondsAt w c.ad c.cs ∧ c.cs.length * 40 ≤ 140737488351232 := by
  rcases open_slice Try.underlying47 h with ⟨hcs, _⟩ | ⟨a, len, cap, m, n, D, Pl, hcs, _, hl, hm, hmm, hx, hel⟩
  · simp at hcs
    subst hcs
    exact ⟨⟨none, 0, []⟩, rfl, ⟨by simp, fun i hi => absurd hi (by simp)⟩, by simp⟩
  · simp at hcs
    subst hcs
    have hlm : len ≤ m := by rw [hmm]; split <;> omega
    have hb : len * 40 ≤ 140737488351232 := by
      have h2 := hw ((((List.range len).map D).length + ((List.range (m - len)).map fun j => D (len + j)).length) * Try.prog.bytesOf 46) (by rw [hx]; simp [DataW.weights, Try.underlying47])
      rw [Try.bytes46] at h2
      simp only [List.length_map, List.length_range, reachBytes] at h2
      omega
    have each : ∀ i, i < len → ∃ t : CondD, w.cell? ((a.add (i * 5)).add 0) = some (.bool t.not) ∧ w.cell? ((a.add (i * 5)).add 1) = some (.int .i64 t.op) ∧ w.cell? ((a.add (i * 5)).add 2) = some (.int .i64 t.left) ∧
        w.cell? ((a.add (i * 5)).add 3) = some (.bool t.const) ∧ w.cell? ((a.add (i * 5)).add 4) = some (.int .i64 t.right) := by
      intro i hi
      obtain ⟨cs', h1, h2⟩ := hel i (by omega)
      rw [Try.cells46] at h1
      obtain ⟨_, hlen, hcell⟩ := World.cells?_some h1
      obtain ⟨xs, k, hk, hxy, _, hxl, hf⟩ := DataW.trod_struct Try.underlying46 h2
      obtain ⟨y0, y1, y2, y3, y4, rfl⟩ := list5 hxl
      obtain ⟨v0, v1, v2, v3, v4, rfl⟩ := list5 hlen
      · skip
        have q0 := hf 0 _ rfl
        have q1 := hf 1 _ rfl
        have q2 := hf 2 _ rfl
        have q3 := hf 3 _ rfl
        have q4 := hf 4 _ rfl
        simp [Try.cells3, Try.cells4] at q0 q1 q2 q3 q4
        obtain ⟨n0, e0, _⟩ := DataW.trod_bool Try.underlying4 q0
        obtain ⟨n1, e1, _, _⟩ := DataW.trod_int Try.underlying3 q1
        obtain ⟨n2, e2, _, _⟩ := DataW.trod_int Try.underlying3 q2
        obtain ⟨n3, e3, _⟩ := DataW.trod_bool Try.underlying4 q3
        obtain ⟨n4, e4, _, _⟩ := DataW.trod_int Try.underlying3 q4
        simp at e0 e1 e2 e3 e4
        subst e0 e1 e2 e3 e4
        exact ⟨⟨n0, n1, n2, n3, n4⟩, hcell 0 (by omega), hcell 1 (by omega), hcell 2 (by omega), hcell 3 (by omega), hcell 4 (by omega)⟩
    haveI : Inhabited CondD := ⟨cz⟩
    obtain ⟨T, hT⟩ := choose_lt (α := CondD) each
    have hlen : ((List.range len).map T).length = len := by simp
    refine ⟨⟨some a, cap, (List.range len).map T⟩, by show _ = Value.slice _ ((List.range len).map T).length _; rw [hlen], ⟨by show ((List.range len).map T).length ≤ _; omega, fun i hi => ?_⟩, by show ((List.range len).map T).length * 40 ≤ _; omega⟩
    have hi' : i < len := by
      have : i < ((List.range len).map T).length := hi
      omega
    have h0 := (hT 0 (by omega)).1
    have ha : ∃ b off, a = ⟨b, off, none⟩ := by
      rw [Nat.zero_mul] at h0
      have e : (a.add 0).add 0 = a.add 0 := by simp [Addr.add]
      rw [e] at h0
      exact addr_none h0
    obtain ⟨b, off, rfl⟩ := ha
    have ht := hT i hi'
    simp only [addr_add', Nat.add_zero] at ht
    show ∃ b' off', _ ∧ _
    rw [getD_range T len i cz hi']
    exact ⟨b, off, rfl, ht⟩

end Go.Proofs.Ytdbkdomhlkcbpaa

namespace Go.Proofs.Ytdbkdomhlkcbpaa
open Go.ChangeShapes Go.WideShapes Go.ChangeAt Go.RowKit Go.Scout

theorem wf64 {n : Int} (h : (Lit.int .i64 n).wf = true) : -9223372036854775808 ≤ n ∧ n ≤ 9223372036854775807 := by
  have h1 : (decide (IntKind.i64.min ≤ n) && decide (n ≤ IntKind.i64.max)) = true := h
  rw [Bool.and_eq_true, decide_eq_true_eq, decide_eq_true_eq] at h1
  have e1 : IntKind.i64.min = -9223372036854775808 := by decide
  have e2 : IntKind.i64.max = 9223372036854775807 := by decide
  rw [e1, e2] at h1
  exact h1

set_option maxRecDepth 20000 in
theorem openList {H : Type} {enc : TypeId × Value → H} {w : World} {spare : Nat → Bool} {held : Bool} {fuel base : Nat} {v : Value} {x : DataW H × List MemPlace} (h : DataW.trod enc Try.prog w 0 spare held fuel 23 [v] = some x) (hv : Value.okWide Try.prog w .any base 23 v) (hw : ∀ n ∈ x.1.weights Try.prog 23, n ≤ reachBytes) :
    ∃ (lo : Option Addr) (lc : Nat) (l : List Int), v = .slice lo l.length lc ∧ IntsAt w lo l ∧ (∀ x ∈ l, -9223372036854775808 ≤ x ∧ x ≤ 9223372036854775807) ∧ ∀ a, lo = some a → a.block < w.heap.size := by
  obtain ⟨iv, rfl, hA, _⟩ := openInts h hw
  obtain ⟨lo, lc, l⟩ := iv
  refine ⟨lo, lc, l, rfl, hA, ?_, ?_⟩
  · rcases open_ints Try.underlying23 Try.underlying3 Try.cells3 h with ⟨hcs, _⟩ | ⟨a, len, cap, zs, hcs, _, hl, _, hz, _, hcell, hwf⟩
    · have e : Value.slice lo l.length lc = Value.slice none 0 0 := by simpa [IntsV.val] using hcs
      rw [Value.slice.injEq] at e
      obtain ⟨e1, e2, e3⟩ := e
      obtain rfl : l = [] := List.eq_nil_of_length_eq_zero e2
      intro x hx
      simp at hx
    · have e : Value.slice lo l.length lc = Value.slice (some a) len cap := by simpa [IntsV.val] using hcs
      rw [Value.slice.injEq] at e
      obtain ⟨e1, e2, e3⟩ := e
      subst e1 e2
      intro x hx
      obtain ⟨i, hi, rfl⟩ := List.getElem_of_mem hx
      have hlz : l.length ≤ zs.length := by rw [hz]; split <;> omega
      obtain ⟨b, off, e, hc⟩ := hA.2 i hi
      have e' : a = ⟨b, off, none⟩ := by injection e
      subst e'
      have hc2 := hcell i (by omega)
      rw [addr_add'] at hc2
      have hc' : w.cell? ⟨b, off + i, none⟩ = some (.int .i64 (l.getD i 0)) := hc
      rw [hc'] at hc2
      have e3' : l.getD i 0 = zs.getD i 0 := by rw [Option.some.injEq, Value.int.injEq] at hc2; exact hc2.2
      have e4 : l.getD i 0 = l[i] := by simp [List.getD, hi]
      have hm : zs.getD i 0 ∈ zs := getD_in (by omega)
      rw [← e4, e3']
      exact wf64 (hwf _ hm)
  · intro a ha
    have ha' : lo = some a := ha
    subst ha'
    simp only [Value.okWide, Cell.okWide, IntsV.val, Try.underlying23, Cell.ok] at hv
    have h3 := hv.2.2
    unfold World.has at h3
    obtain ⟨_, _, row, cells, hsh, _⟩ := h3
    unfold World.shape? at hsh
    by_cases hlt : a.block < w.heap.size
    · exact hlt
    · rw [Array.getElem?_eq_none (by omega)] at hsh
      simp at hsh

end Go.Proofs.Ytdbkdomhlkcbpaa

