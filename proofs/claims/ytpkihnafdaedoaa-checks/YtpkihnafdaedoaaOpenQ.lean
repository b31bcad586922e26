import Derived.Test.YtpkihnafdaedoaaOpen
namespace Go.Proofs.Ytpkihnafdaedoaa
open Go.RowKit Go.Scout Go.Deep Go.ChangeShapes Go.WideShapes Go.ChangeAt

variable {H : Type} {enc : TypeId × Value → H} {w : World} {spare : Nat → Bool} {held : Bool} {fuel : Nat}

theorem weightsAll_mem {P : Program} {e : TypeId} {d : DataW H} {n : Nat} (hn : n ∈ d.weights P e) : ∀ {ds : List (DataW H)}, d ∈ ds → n ∈ DataW.weightsAll P e ds
  | [], h => absurd h (by simp)
  | x :: r, h => by
    rw [DataW.weightsAll]
    rcases List.mem_cons.1 h with rfl | h'
    · exact List.mem_append_left _ hn
    · exact List.mem_append_right _ (weightsAll_mem hn h')

theorem openClauses {v : Value} {x : DataW H × List MemPlace} (h : DataW.trod enc Try.prog w 0 spare held fuel 24 [v] = some x) (hw : ∀ n ∈ x.1.weights Try.prog 24, n ≤ reachBytes) :
    ∃ ao cap ls, v = .slice ao (List.length ls) cap ∧ ClausesAt w ao ls ∧ ls.length * 24 ≤ 140737488351232 ∧ ∀ i, i < ls.length → (ls.getD i lz).cs.length * 40 ≤ 140737488351232 := by
  rcases open_slice1 Try.underlying24 Try.cells68 h with ⟨hcs, _⟩ | ⟨a, len, cap, m, n, V, D, Pl, hcs, _, hl, hm, hmm, hx, hel⟩
  · simp at hcs
    subst hcs
    exact ⟨none, 0, [], rfl, ⟨by simp, fun i hi => absurd hi (by simp), fun i hi => absurd hi (by simp)⟩, by simp, fun i hi => absurd hi (by simp)⟩
  · simp at hcs
    subst hcs
    have hlm : len ≤ m := by rw [hmm]; split <;> omega
    have hb : len * 24 ≤ 140737488351232 := by
      have h2 := hw ((((List.range len).map D).length + ((List.range (m - len)).map fun j => D (len + j)).length) * Try.prog.bytesOf 68) (by rw [hx]; simp [DataW.weights, Try.underlying24])
      rw [Try.bytes68] at h2
      simp only [List.length_map, List.length_range, reachBytes] at h2
      omega
    have each : ∀ i, i < len → ∃ c : ClauseV, w.cell? (a.add i) = some c.val ∧ CondsAt w c.ad c.cs ∧ c.cs.length * 40 ≤ 140737488351232 := by
      intro i hi
      obtain ⟨h1, h2⟩ := hel i (by omega)
      obtain ⟨xs, k, hk, hxy, _, hxl, hf⟩ := DataW.trod_struct Try.underlying68 h2
      have hx1 : xs.length = 1 := hxl
      obtain ⟨y0, rfl⟩ := List.length_eq_one_iff.1 hx1
      have q0 := hf 0 _ rfl
      simp [Try.cells47] at q0
      obtain ⟨c, hc, hcd, hcl⟩ := openConds q0 (fun nn hnn => by
        refine hw nn ?_
        rw [hx]
        have hD : D i = .agg [y0.1] := by
          have := congrArg Prod.fst hxy
          simpa using this
        have hmem : nn ∈ (D i).weights Try.prog 68 := by
          rw [hD]
          simp [DataW.weights, Try.underlying68, DataW.weightsEach, hnn]
        have hall := weightsAll_mem hmem (ds := (List.range len).map D) (List.mem_map.2 ⟨i, List.mem_range.2 hi, rfl⟩)
        simp only [DataW.weights, Try.underlying24]
        exact List.mem_cons_of_mem _ (List.mem_append_left _ hall))
      exact ⟨c, by rw [← hc]; exact h1, hcd, hcl⟩
    haveI : Inhabited ClauseV := ⟨lz⟩
    obtain ⟨T, hT⟩ := choose_lt (α := ClauseV) each
    have hlen : ((List.range len).map T).length = len := by simp
    refine ⟨some a, cap, (List.range len).map T, by rw [hlen], ⟨by omega, fun i hi => ?_, fun i hi => ?_⟩, by omega, fun i hi => ?_⟩
    · have hi' : i < len := by omega
      obtain ⟨b, off, rfl⟩ := addr_none (hT 0 (by omega)).1
      have ht := (hT i hi').1
      rw [addr_add'] at ht
      refine ⟨b, off, rfl, ?_⟩
      show _ = some (((List.range len).map T).getD i lz).val
      rw [getD_range T len i lz hi']
      exact ht
    · have hi' : i < len := by omega
      rw [getD_range T len i lz hi']
      exact (hT i hi').2.1
    · have hi' : i < len := by omega
      rw [getD_range T len i lz hi']
      exact (hT i hi').2.2

set_option maxRecDepth 100000 in
theorem openQuery {r : Reach} {b0 : Nat} {v : Value} {d : DataW H} {p : List MemPlace} (hv : Value.okWide Try.prog w r b0 26 v) (h : DataW.Trod enc Try.prog w 0 spare held 26 v d p) (hw : ∀ n ∈ d.weights Try.prog 26, n ≤ reachBytes) :
    ∃ q : QueryV, v = .agg q.cells ∧ q.At w ∧ q.src.xs.length * 8 ≤ 140737488351232 ∧ q.keys.xs.length * 8 ≤ 140737488351232 ∧ q.sums.xs.length * 8 ≤ 140737488351232 ∧ q.sel.xs.length * 8 ≤ 140737488351232 ∧ q.ord.xs.length * 8 ≤ 140737488351232 ∧
      q.wh.length * 24 ≤ 140737488351232 ∧ ∀ i, i < q.wh.length → (q.wh.getD i lz).cs.length * 40 ≤ 140737488351232 := by
  obtain ⟨cs, rfl, hsz⟩ := okWide_struct Try.underlying26 hv
  rw [Try.cells26] at hsz
  obtain ⟨fuel, hf⟩ := h
  obtain ⟨cl, rfl⟩ : ∃ l : List Value, cs = l.toArray := ⟨cs.toList, by simp⟩
  obtain ⟨v0, v1, v2, v3, v4, v5, v6, rfl⟩ := list7 (by simpa using hsz)
  obtain ⟨xs, k, hk, hxy, _, hxl, hff⟩ := DataW.trod_struct Try.underlying26 hf
  obtain ⟨y0, y1, y2, y3, y4, y5, y6, rfl⟩ := list7 hxl
  have q0 := hff 0 _ rfl
  have q1 := hff 1 _ rfl
  have q2 := hff 2 _ rfl
  have q3 := hff 3 _ rfl
  have q4 := hff 4 _ rfl
  have q5 := hff 5 _ rfl
  have q6 := hff 6 _ rfl
  simp [Value.cells, Try.cells23, Try.cells24, Try.cells4] at q0 q1 q2 q3 q4 q5 q6
  have hd : d = .agg [y0.1, y1.1, y2.1, y3.1, y4.1, y5.1, y6.1] := by
    have := congrArg Prod.fst hxy
    simpa using this
  have hwe : ∀ n, n ∈ DataW.weightsEach Try.prog [23, 24, 4, 23, 23, 23, 23] [y0.1, y1.1, y2.1, y3.1, y4.1, y5.1, y6.1] → n ≤ reachBytes := fun n hn => hw n (by
    rw [hd]
    simp only [DataW.weights, Try.underlying26]
    exact hn)
  have wm := fun (j : Nat) (t : TypeId) (dd : DataW H) (h1 : [23, 24, 4, 23, 23, 23, 23][j]? = some t) (h2 : [y0.1, y1.1, y2.1, y3.1, y4.1, y5.1, y6.1][j]? = some dd) => fun n hn => hwe n (DataW.weights_mem_each h1 h2 n hn)
  obtain ⟨i0, rfl, a0, b0'⟩ := openInts q0 (wm 0 _ _ rfl rfl)
  obtain ⟨wad, wcap, ls, rfl, a1, b1, b1'⟩ := openClauses q1 (wm 1 _ _ rfl rfl)
  obtain ⟨gb, e2, _⟩ := DataW.trod_bool Try.underlying4 q2
  obtain ⟨i3, rfl, a3, b3⟩ := openInts q3 (wm 3 _ _ rfl rfl)
  obtain ⟨i4, rfl, a4, b4⟩ := openInts q4 (wm 4 _ _ rfl rfl)
  obtain ⟨i5, rfl, a5, b5⟩ := openInts q5 (wm 5 _ _ rfl rfl)
  obtain ⟨i6, rfl, a6, b6⟩ := openInts q6 (wm 6 _ _ rfl rfl)
  simp at e2
  subst e2
  exact ⟨⟨i0, wad, wcap, ls, gb, i3, i4, i5, i6⟩, rfl, ⟨a0, a1, a3, a4, a5, a6⟩, b0', b3, b4, b5, b6, b1, b1'⟩

end Go.Proofs.Ytpkihnafdaedoaa
