import Derived.Test.YtpkihnafdaedoaaBase6
namespace Go.Scout
open Go.RowKit

theorem conds_src {w : World} {ao : Option Addr} {cs : List CondD} (h : CondsAt w ao cs) : ∀ j, j < cs.length * 5 → ∃ b off, ao = some ⟨b, off, none⟩ ∧ w.cell? ⟨b, off + j, none⟩ = (cs.flatMap CondD.vals)[j]? := by
  intro j hj
  obtain ⟨b, off, e, c0, c1, c2, c3, c4⟩ := h.2 (j / 5) (by omega)
  refine ⟨b, off, e, ?_⟩
  have hf := flat_at CondD.vals 5 cvals_len cz cs [] (j / 5) (j % 5) (by omega) (by omega)
  rw [List.append_nil, show j / 5 * 5 + j % 5 = j by omega] at hf
  rw [hf]
  generalize hd : cs.getD (j / 5) cz = d at *
  have hm : j % 5 < 5 := Nat.mod_lt _ (by omega)
  rcases (by omega : j % 5 = 0 ∨ j % 5 = 1 ∨ j % 5 = 2 ∨ j % 5 = 3 ∨ j % 5 = 4) with h5 | h5 | h5 | h5 | h5
  · rw [show off + j = off + j / 5 * 5 by omega, c0, h5]; rfl
  · rw [show off + j = off + j / 5 * 5 + 1 by omega, c1, h5]; rfl
  · rw [show off + j = off + j / 5 * 5 + 2 by omega, c2, h5]; rfl
  · rw [show off + j = off + j / 5 * 5 + 3 by omega, c3, h5]; rfl
  · rw [show off + j = off + j / 5 * 5 + 4 by omega, c4, h5]; rfl

theorem conds_one (cs : List CondD) : ∀ v ∈ cs.flatMap CondD.vals, v.oneCell' = true := by
  intro v hv
  rw [List.mem_flatMap] at hv
  obtain ⟨c, _, hc⟩ := hv
  simp only [CondD.vals, List.mem_cons, List.mem_nil_iff, or_false] at hc
  rcases hc with rfl | rfl | rfl | rfl | rfl <;> rfl

theorem tabs_src {w : World} {ao : Option Addr} {ts : List TableD} (h : TablesAt w ao ts) : ∀ j, j < ts.length * 6 → ∃ b off, ao = some ⟨b, off, none⟩ ∧ w.cell? ⟨b, off + j, none⟩ = (ts.flatMap tabVals)[j]? := by
  intro j hj
  obtain ⟨b, off, e, c0, c1, c2, c3, c4, c5⟩ := h.2 (j / 6) (by omega)
  refine ⟨b, off, e, ?_⟩
  have hf := flat_at tabVals 6 tvals_len tz ts [] (j / 6) (j % 6) (by omega) (by omega)
  rw [List.append_nil, show j / 6 * 6 + j % 6 = j by omega] at hf
  rw [hf]
  generalize hd : ts.getD (j / 6) tz = d at *
  have hm : j % 6 < 6 := Nat.mod_lt _ (by omega)
  rcases (by omega : j % 6 = 0 ∨ j % 6 = 1 ∨ j % 6 = 2 ∨ j % 6 = 3 ∨ j % 6 = 4 ∨ j % 6 = 5) with h5 | h5 | h5 | h5 | h5 | h5
  · rw [show off + j = off + j / 6 * 6 by omega, c0, h5]; rfl
  · rw [show off + j = off + j / 6 * 6 + 1 by omega, c1, h5]; rfl
  · rw [show off + j = off + j / 6 * 6 + 2 by omega, c2, h5]; rfl
  · rw [show off + j = off + j / 6 * 6 + 3 by omega, c3, h5]; rfl
  · rw [show off + j = off + j / 6 * 6 + 4 by omega, c4, h5]; rfl
  · rw [show off + j = off + j / 6 * 6 + 5 by omega, c5, h5]; rfl

theorem tabs_one (ts : List TableD) : ∀ v ∈ ts.flatMap tabVals, v.oneCell' = true := by
  intro v hv
  rw [List.mem_flatMap] at hv
  obtain ⟨c, _, hc⟩ := hv
  simp only [tabVals, List.mem_cons, List.mem_nil_iff, or_false] at hc
  rcases hc with rfl | rfl | rfl | rfl | rfl | rfl <;> rfl

/-- The block of a struct Given: its sixteen cells. -/
def GB (w : World) (G : Nat) (t : TypeId) (c : Array Value) : Prop := w.heap[G]? = some (.cells c t (0, 0))

theorem GB.cell {w : World} {G : Nat} {t : TypeId} {c : Array Value} (h : GB w G t c) (i : Nat) : w.cell? ⟨G, i, none⟩ = c[i]? := by
  unfold GB at h
  simp [World.cell?, h]
theorem GB.frozen {w : World} {G : Nat} {t : TypeId} {c : Array Value} (h : GB w G t c) (i : Nat) : w.frozen? ⟨G, i, none⟩ = false := by
  unfold GB at h
  simp [World.frozen?, h]
theorem GB.lt {w : World} {G : Nat} {t : TypeId} {c : Array Value} (h : GB w G t c) : G < w.heap.size := by
  unfold GB at h
  exact (Array.getElem?_eq_some_iff.1 h).1
theorem GB.set {w : World} {G : Nat} {t : TypeId} {c : Array Value} (h : GB w G t c) (i : Nat) (v : Value) : GB (w.setCell ⟨G, i, none⟩ v) G t (c.setIfInBounds i v) := by
  unfold GB at *
  rw [setCell_eq_setRow w G i c t (0, 0) v h]
  exact setRow_heap w G c _ t _ h
theorem GB.of {w w' : World} {G : Nat} {t : TypeId} {c : Array Value} (h : GB w G t c) (e : w'.heap[G]? = w.heap[G]?) : GB w' G t c := by
  unfold GB at *
  rw [e]
  exact h
theorem heap_setCell {w : World} {a : Addr} {v : Value} {k : Nat} (h : k ≠ a.block) : (w.setCell a v).heap[k]? = w.heap[k]? := Below.heap_setCell _ _ _ _ h
theorem heap_alloc {w : World} {o : Obj} {k : Nat} (h : k < w.heap.size) : (w.alloc o).heap[k]? = w.heap[k]? := Below.heap_alloc _ _ _ h

/-- How the loop of 'clauses' stands when k clauses are lent. -/
structure CState (w00 w0 wr : World) (G tG tC tA tS n : Nat) (gc : Value → Value → Array Value) (ls : List ClauseV) (k : Nat) (v : Value) (A : Nat → Nat) : Prop where
  bel : Below w00.heap.size w00 wr
  oth : ∀ j, j < w0.heap.size → j ≠ G → wr.heap[j]? = w0.heap[j]?
  siz : w0.heap.size < wr.heap.size
  g : GB wr G tG (gc (.slice (some ⟨w0.heap.size, 0, none⟩) (n + 2) (n + 2)) v)
  row : wr.rowIs w0.heap.size tC (n + 2) (fun i => if i < k then .slice (some ⟨A i, 0, none⟩) (ls.getD i lz).cs.length ((ls.getD i lz).cs.length + 2) else .slice none 0 0)
  al : ∀ i, i < k → w0.heap.size < A i ∧ GB wr (A i) tS (lentConds (ls.getD i lz).cs)
  own : wr.ownsRow w0.heap.size tA 1 v k ((List.range k).map fun i => .slice (some ⟨A i, 0, none⟩) ((ls.getD i lz).cs.length + 2) ((ls.getD i lz).cs.length + 2))

/-- What is known behind the append of a round. -/
structure CMid (w00 w0 wr w1 : World) (G tG tC tS n : Nat) (gc : Value → Value → Array Value) (ls : List ClauseV) (k : Nat) (v v' : Value) (A : Nat → Nat) (cs : List CondD) : Prop where
  bel : Below w00.heap.size w00 w1
  oth : ∀ j, j < w0.heap.size → j ≠ G → w1.heap[j]? = w0.heap[j]?
  siz : w0.heap.size < w1.heap.size
  siz' : w0.heap.size < wr.heap.size
  g : GB w1 G tG (gc (.slice (some ⟨w0.heap.size, 0, none⟩) (n + 2) (n + 2)) v)
  row : w1.rowIs w0.heap.size tC (n + 2) (fun i => if i < k then .slice (some ⟨A i, 0, none⟩) (ls.getD i lz).cs.length ((ls.getD i lz).cs.length + 2) else .slice none 0 0)
  al : ∀ i, i < k → w0.heap.size < A i ∧ GB w1 (A i) tS (lentConds (ls.getD i lz).cs)
  new : GB w1 wr.heap.size tS (lentConds cs)
  sh : ∃ g cap, v' = .slice (some ⟨g, 0, none⟩) (k + 1) cap

theorem CState.mid {w00 w0 wr w1 : World} {G tG tC tA tS n : Nat} {gc : Value → Value → Array Value} {ls : List ClauseV} {k : Nat} {v v' : Value} {A : Nat → Nat} {cs : List CondD} {Y : Obj} {xs : List Value}
    (h : CState w00 w0 wr G tG tC tA tS n gc ls k v A) (hAC : tA ≠ tC) (hAS : tA ≠ tS) (hG : G < w0.heap.size) (hGo : w00.heap.size ≤ G)
    (hown : w1.ownsRow w0.heap.size tA 1 v' (k + 1) xs) (_hx : xs.length = k + 1) (hgr : ((wr.alloc (.cells (lentConds cs) tS)).alloc Y).grownBy w1 v.ownBlock) :
    CMid w00 w0 wr w1 G tG tC tS n gc ls k v v' A cs := by
  have hlt := h.own.lt
  have hsz := h.siz
  have hblk : ∀ j, j < wr.heap.size → some j ≠ v.ownBlock → w1.heap[j]? = wr.heap[j]? := fun j hj hne => by
    rw [hgr.block j (by simp; omega) hne, heap_alloc (by simp; omega), heap_alloc hj]
  have hty : ∀ j c t, wr.heap[j]? = some (.cells c t (0, 0)) → t ≠ tA → some j ≠ v.ownBlock := fun j c t hj ht he => by
    rcases h.own.2 with ⟨rfl, _⟩ | ⟨g, cap, cur, rfl, _, hh, _⟩
    · simp [Value.ownBlock] at he
    · simp [Value.ownBlock] at he
      subst he
      rw [hh] at hj
      simp at hj
      exact ht hj.2.symm
  have hlow : ∀ j, j < w0.heap.size → some j ≠ v.ownBlock := fun j hj he => by
    have := hlt j he.symm
    omega
  refine ⟨?_, fun j hj hne => ?_, ?_, hsz, ?_, ?_, fun i hi => ⟨(h.al i hi).1, ?_⟩, ?_, ?_⟩
  · have b1 := (h.bel.alloc h.bel.size (.cells (lentConds cs) tS))
    have b2 := b1.alloc b1.size Y
    exact b2.grown hgr (by have := h.bel.size; simp; omega) (fun j hj => by have := hlt j hj; omega)
  · rw [hblk j (by omega) (hlow j hj)]
    exact h.oth j hj hne
  · have := hgr.size
    simp at this
    omega
  · exact h.g.of (hblk G (by omega) (hlow G hG))
  · obtain ⟨c, hc, hs, hv⟩ := h.row
    exact ⟨c, (hblk _ hsz (hty _ _ _ hc (Ne.symm hAC))).trans hc, hs, hv⟩
  · have hA := (h.al i hi).2
    exact hA.of (hblk _ hA.lt (hty _ _ _ hA (Ne.symm hAS)))
  · show w1.heap[wr.heap.size]? = _
    rw [hgr.block wr.heap.size (by simp; omega) (fun he => by have := hlt _ he.symm; omega), heap_alloc (by simp), heap_alloc_new]
  · rcases hown.2 with ⟨_, hnil⟩ | ⟨g, cap, cur, hv, _⟩
    · omega
    · exact ⟨g, cap, hv⟩

theorem CMid.next {w00 w0 wr w1 : World} {G tG tC tA tS n : Nat} {gc : Value → Value → Array Value} {ls : List ClauseV} {k : Nat} {v v' : Value} {A : Nat → Nat} {cs : List CondD}
    (M : CMid w00 w0 wr w1 G tG tC tS n gc ls k v v' A cs) (hgc : ∀ x y y', (gc x y).setIfInBounds 12 y' = gc x y') (hG : G < w0.heap.size) (hGo : w00.heap.size ≤ G) (hcs : (ls.getD k lz).cs = cs)
    (hAC : tA ≠ tC) (_hAS : tA ≠ tS) (_hAG : tA ≠ tG)
    (hown : w1.ownsRow w0.heap.size tA 1 v' (k + 1) (((List.range k).map fun i => Value.slice (some ⟨A i, 0, none⟩) ((ls.getD i lz).cs.length + 2) ((ls.getD i lz).cs.length + 2)) ++ [Value.slice (some ⟨wr.heap.size, 0, none⟩) (cs.length + 2) (cs.length + 2)])) :
    CState w00 w0 ((w1.setCell ⟨G, 12, none⟩ v').setCell ⟨w0.heap.size, k, none⟩ (.slice (some ⟨wr.heap.size, 0, none⟩) cs.length (cs.length + 2))).drew G tG tC tA tS n gc ls (k + 1) v' (fun i => if i = k then wr.heap.size else A i) := by
  have hs' := M.siz'
  have hs1 := M.siz
  have hAne : ∀ i, i < k → A i ≠ wr.heap.size ∨ True := fun _ _ => .inr trivial
  have hblk : ∀ j, j ≠ G → j ≠ w0.heap.size → (((w1.setCell ⟨G, 12, none⟩ v').setCell ⟨w0.heap.size, k, none⟩ (.slice (some ⟨wr.heap.size, 0, none⟩) cs.length (cs.length + 2))).drew).heap[j]? = w1.heap[j]? := fun j h1 h2 => by
    show ((w1.setCell ⟨G, 12, none⟩ v').setCell ⟨w0.heap.size, k, none⟩ _).heap[j]? = _
    rw [heap_setCell h2, heap_setCell h1]
  refine ⟨?_, fun j hj hne => ?_, ?_, ?_, ?_, fun i hi => ?_, ?_⟩
  · have hb0 := M.bel.size
    exact ((M.bel.setCell (p := ⟨G, 12, none⟩) hGo v').setCell (p := ⟨w0.heap.size, k, none⟩) (by show w00.heap.size ≤ w0.heap.size; omega) _).drew
  · rw [hblk j hne (by omega)]
    exact M.oth j hj hne
  · simpa using hs1
  · have h1 := M.g.set 12 v'
    rw [hgc] at h1
    exact h1.of (by show ((w1.setCell ⟨G, 12, none⟩ v').setCell ⟨w0.heap.size, k, none⟩ _).heap[G]? = _; rw [heap_setCell (by show G ≠ w0.heap.size; omega)])
  · have h1 := (M.row.setOther (a := ⟨G, 12, none⟩) (by show w0.heap.size ≠ G; omega) v').set k (.slice (some ⟨wr.heap.size, 0, none⟩) cs.length (cs.length + 2))
    refine (h1.drew).congr fun i hi => ?_
    by_cases hik : i = k
    · subst hik
      simp only [if_true, show i < i + 1 by omega]
      rw [hcs]
    · simp only [hik, if_false]
      by_cases h2 : i < k
      · rw [if_pos h2, if_pos (by omega)]
      · rw [if_neg h2, if_neg (by omega)]
  · by_cases hik : i = k
    · subst hik
      simp only [if_true]
      refine ⟨hs', ?_⟩
      rw [hcs]
      exact M.new.of (hblk _ (by omega) (by omega))
    · simp only [hik, if_false]
      have hA := M.al i (by omega)
      exact ⟨hA.1, hA.2.of (hblk _ (by omega) (by omega))⟩
  · have e : ((List.range (k + 1)).map fun i => Value.slice (some ⟨(fun i => if i = k then wr.heap.size else A i) i, 0, none⟩) ((ls.getD i lz).cs.length + 2) ((ls.getD i lz).cs.length + 2)) =
        (((List.range k).map fun i => Value.slice (some ⟨A i, 0, none⟩) ((ls.getD i lz).cs.length + 2) ((ls.getD i lz).cs.length + 2)) ++ [Value.slice (some ⟨wr.heap.size, 0, none⟩) (cs.length + 2) (cs.length + 2)]) := by
      rw [List.range_succ, List.map_append]
      congr 1
      · apply List.map_congr_left
        intro i hi
        have : i < k := List.mem_range.1 hi
        have hne : ¬ i = k := by omega
        simp [hne]
      · simp [← hcs]
    rw [e]
    have n1 : v'.ownBlock ≠ some G := fun he => by have := hown.lt _ he; omega
    have n2 : v'.ownBlock ≠ some w0.heap.size := fun he => by
      obtain ⟨c, hc, _⟩ := M.row
      rcases hown.2 with ⟨rfl, _⟩ | ⟨g, cap, cur, rfl, _, hh, _⟩
      · simp [Value.ownBlock] at he
      · simp [Value.ownBlock] at he
        subst he
        rw [hh] at hc
        simp at hc
        exact hAC hc.2
    exact (ownsRow_setCell_other (ownsRow_setCell_other hown n1 v') n2 _).drew

end Go.Scout
