import Derived.Test.YtpkihnafdaedoaaBase7
namespace Go.Scout
open Go.RowKit

/-- The clauses, lent: behind 'clauses'. -/
structure CLent (w00 w0 w' : World) (G tG tC tA tS n : Nat) (gc : Value → Value → Value → Array Value) (ls : List ClauseV) (v : Value) (A : Nat → Nat) (b1 b2 : Nat) : Prop where
  bel : Below w00.heap.size w00 w'
  oth : ∀ j, j < w0.heap.size → j ≠ G → w'.heap[j]? = w0.heap[j]?
  siz : w0.heap.size < w'.heap.size
  g : GB w' G tG (gc (.slice (some ⟨w0.heap.size, 0, none⟩) n (n + 2)) (.slice (some ⟨w0.heap.size, 0, none⟩) (n + 2) (n + 2)) v)
  row : w'.rowIs w0.heap.size tC (n + 2) (fun i => if i < n then .slice (some ⟨A i, 0, none⟩) (ls.getD i lz).cs.length ((ls.getD i lz).cs.length + 2) else if i = n then .slice (some ⟨b1, 0, none⟩) 1 1 else .slice (some ⟨b2, 0, none⟩) 1 1)
  al : ∀ i, i < n → w0.heap.size < A i ∧ GB w' (A i) tS (lentConds (ls.getD i lz).cs)
  own : w'.ownsRow w0.heap.size tA 1 v n ((List.range n).map fun i => .slice (some ⟨A i, 0, none⟩) ((ls.getD i lz).cs.length + 2) ((ls.getD i lz).cs.length + 2))
  k1 : w0.heap.size < b1 ∧ GB w' b1 tS ic.toArray
  k2 : w0.heap.size < b2 ∧ GB w' b2 tS ic.toArray

theorem CState.fin {w00 w0 wr : World} {G tG tC tA tS n : Nat} {gc : Value → Value → Array Value} {gc' : Value → Value → Value → Array Value} {ls : List ClauseV} {v : Value} {A : Nat → Nat}
    (h : CState w00 w0 wr G tG tC tA tS n gc ls n v A) (hgc : ∀ x y z, (gc y z).setIfInBounds 2 x = gc' x y z) (hG : G < w0.heap.size) (hGo : w00.heap.size ≤ G) (hAC : tA ≠ tC) :
    CLent w00 w0 (((((wr.setCell ⟨w0.heap.size, n, none⟩ (.slice (some ⟨wr.heap.size, 0, none⟩) 1 1)).setCell ⟨w0.heap.size, n + 1, none⟩ (.slice (some ⟨wr.heap.size + 1, 0, none⟩) 1 1)).setCell ⟨G, 2, none⟩ (.slice (some ⟨w0.heap.size, 0, none⟩) n (n + 2))).alloc
      (.cells ic.toArray tS)).alloc (.cells ic.toArray tS)) G tG tC tA tS n gc' ls v A wr.heap.size (wr.heap.size + 1) := by
  have hs := h.siz
  have hb0 := h.bel.size
  let w1 := ((wr.setCell ⟨w0.heap.size, n, none⟩ (.slice (some ⟨wr.heap.size, 0, none⟩) 1 1)).setCell ⟨w0.heap.size, n + 1, none⟩ (.slice (some ⟨wr.heap.size + 1, 0, none⟩) 1 1)).setCell ⟨G, 2, none⟩ (.slice (some ⟨w0.heap.size, 0, none⟩) n (n + 2))
  have hw1 : w1.heap.size = wr.heap.size := by simp [w1]
  have hblk1 : ∀ j, j ≠ G → j ≠ w0.heap.size → w1.heap[j]? = wr.heap[j]? := fun j h1 h2 => by
    show (((wr.setCell ⟨w0.heap.size, n, none⟩ _).setCell ⟨w0.heap.size, n + 1, none⟩ _).setCell ⟨G, 2, none⟩ _).heap[j]? = _
    rw [heap_setCell h1, heap_setCell h2, heap_setCell h2]
  have hup : ∀ j, j < wr.heap.size → ((w1.alloc (.cells ic.toArray tS)).alloc (.cells ic.toArray tS)).heap[j]? = w1.heap[j]? := fun j hj => by
    rw [heap_alloc (by simp [hw1]; omega), heap_alloc (by omega)]
  have hblk : ∀ j, j < wr.heap.size → j ≠ G → j ≠ w0.heap.size → ((w1.alloc (.cells ic.toArray tS)).alloc (.cells ic.toArray tS)).heap[j]? = wr.heap[j]? := fun j hj h1 h2 => (hup j hj).trans (hblk1 j h1 h2)
  show CLent w00 w0 ((w1.alloc (.cells ic.toArray tS)).alloc (.cells ic.toArray tS)) G tG tC tA tS n gc' ls v A wr.heap.size (wr.heap.size + 1)
  have hbel1 : Below w00.heap.size w00 w1 := ((h.bel.setCell (p := ⟨w0.heap.size, n, none⟩) (by show w00.heap.size ≤ w0.heap.size; omega) _).setCell (p := ⟨w0.heap.size, n + 1, none⟩) (by show w00.heap.size ≤ w0.heap.size; omega) _).setCell (p := ⟨G, 2, none⟩) hGo _
  refine ⟨?_, fun j hj hne => ?_, ?_, ?_, ?_, fun i hi => ?_, ?_, ⟨by omega, ?_⟩, ⟨by omega, ?_⟩⟩
  · have b1 := hbel1.alloc hbel1.size (.cells ic.toArray tS)
    exact b1.alloc b1.size _
  · rw [hblk j (by omega) hne (by omega)]
    exact h.oth j hj hne
  · simp [hw1]; omega
  · have h1 : GB ((wr.setCell ⟨w0.heap.size, n, none⟩ (.slice (some ⟨wr.heap.size, 0, none⟩) 1 1)).setCell ⟨w0.heap.size, n + 1, none⟩ (.slice (some ⟨wr.heap.size + 1, 0, none⟩) 1 1)) G tG (gc (.slice (some ⟨w0.heap.size, 0, none⟩) (n + 2) (n + 2)) v) :=
      h.g.of (by rw [heap_setCell (by show G ≠ w0.heap.size; omega), heap_setCell (by show G ≠ w0.heap.size; omega)])
    have h2 := h1.set 2 (.slice (some ⟨w0.heap.size, 0, none⟩) n (n + 2))
    rw [hgc] at h2
    exact GB.of (w := w1) h2 (hup G (by omega))
  · have h1 := ((h.row.set n (.slice (some ⟨wr.heap.size, 0, none⟩) 1 1)).set (n + 1) (.slice (some ⟨wr.heap.size + 1, 0, none⟩) 1 1)).setOther (a := ⟨G, 2, none⟩) (by show w0.heap.size ≠ G; omega) (.slice (some ⟨w0.heap.size, 0, none⟩) n (n + 2))
    refine ((h1.alloc _).alloc _).congr fun i hi => ?_
    by_cases h3 : i < n
    · simp only [if_neg (show ¬ i = n + 1 by omega), if_neg (show ¬ i = n by omega), if_pos h3]
    · by_cases h4 : i = n
      · subst h4
        simp
      · have h5 : i = n + 1 := by omega
        subst h5
        simp
  · have hA := h.al i hi
    exact ⟨hA.1, hA.2.of (hblk _ hA.2.lt (by omega) (by omega))⟩
  · have n1 : v.ownBlock ≠ some G := fun he => by have := h.own.lt _ he; omega
    have n2 : v.ownBlock ≠ some w0.heap.size := fun he => by
      obtain ⟨c, hc, _⟩ := h.row
      rcases h.own.2 with ⟨rfl, _⟩ | ⟨g, cap, cur, rfl, _, hh, _⟩
      · simp [Value.ownBlock] at he
      · simp [Value.ownBlock] at he
        subst he
        rw [hh] at hc
        simp at hc
        exact hAC hc.2
    exact ((ownsRow_setCell_other (ownsRow_setCell_other (ownsRow_setCell_other h.own n2 _) n2 _) n1 _).alloc _).alloc _
  · show ((w1.alloc (.cells ic.toArray tS)).alloc (.cells ic.toArray tS)).heap[wr.heap.size]? = _
    rw [heap_alloc (by simp [hw1]), ← hw1, heap_alloc_new]
  · show ((w1.alloc (.cells ic.toArray tS)).alloc (.cells ic.toArray tS)).heap[wr.heap.size + 1]? = _
    have : wr.heap.size + 1 = (w1.alloc (.cells ic.toArray tS)).heap.size := by simp [hw1]
    rw [this, heap_alloc_new]

theorem CState.start {w00 w : World} {G tG tC tA tS n : Nat} {c : Array Value} {gc : Value → Value → Array Value} {ls : List ClauseV}
    (hb : Below w00.heap.size w00 w) (hGo : w00.heap.size ≤ G) (hG : GB w G tG c) (hgc : c.setIfInBounds 11 (.slice (some ⟨w.heap.size, 0, none⟩) (n + 2) (n + 2)) = gc (.slice (some ⟨w.heap.size, 0, none⟩) (n + 2) (n + 2)) (.slice none 0 0)) :
    CState w00 w ((w.setCell ⟨G, 11, none⟩ (.slice (some ⟨w.heap.size, 0, none⟩) (n + 2) (n + 2))).alloc (.cells (madeCells #[.slice none 0 0] (n + 2)) tC)) G tG tC tA tS n gc ls 0 (.slice none 0 0) (fun _ => 0) := by
  have hlt := hG.lt
  have hb1 := hb.setCell (p := ⟨G, 11, none⟩) hGo (.slice (some ⟨w.heap.size, 0, none⟩) (n + 2) (n + 2))
  refine ⟨hb1.alloc hb1.size _, fun j hj hne => ?_, by simp, ?_, ?_, fun i hi => absurd hi (by omega), World.ownsRow_nil _ _ _ _⟩
  · rw [heap_alloc (by simpa using hj), heap_setCell hne]
  · have h1 := hG.set 11 (.slice (some ⟨w.heap.size, 0, none⟩) (n + 2) (n + 2))
    rw [hgc] at h1
    exact h1.of (heap_alloc (by simpa using hlt))
  · have h1 := World.rowIs_made (w.setCell ⟨G, 11, none⟩ (.slice (some ⟨w.heap.size, 0, none⟩) (n + 2) (n + 2))) (.slice none 0 0) (n + 2) tC
    rw [World.size_setCell] at h1
    exact h1.congr fun i hi => by simp

end Go.Scout
