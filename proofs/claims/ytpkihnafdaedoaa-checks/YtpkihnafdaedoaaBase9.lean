import Derived.Test.YtpkihnafdaedoaaBase8
namespace Go.Scout
open Go.RowKit

/-- While the struct is filled: the struct's cells, and the blocks that were made beside it. -/
structure Pre (w w2 : World) (G tG : Nat) (c : Array Value) (bs : List (Nat × Obj)) : Prop where
  bel : Below w.heap.size w w2
  lo : w.heap.size ≤ G
  g : GB w2 G tG c
  bs : ∀ p, p ∈ bs → p.1 ≠ G ∧ w.heap.size ≤ p.1 ∧ w2.heap[p.1]? = some p.2

theorem Pre.store {w w2 : World} {G tG : Nat} {c : Array Value} {bs : List (Nat × Obj)} (h : Pre w w2 G tG c bs) (i : Nat) (v : Value) : Pre w (w2.setCell ⟨G, i, none⟩ v) G tG (c.setIfInBounds i v) bs :=
  ⟨h.bel.setCell (p := ⟨G, i, none⟩) h.lo v, h.lo, h.g.set i v, fun p hp => ⟨(h.bs p hp).1, (h.bs p hp).2.1, (heap_setCell (h.bs p hp).1).trans (h.bs p hp).2.2⟩⟩

theorem Pre.alloc {w w2 : World} {G tG : Nat} {c : Array Value} {bs : List (Nat × Obj)} (h : Pre w w2 G tG c bs) (o : Obj) : Pre w (w2.alloc o) G tG c ((w2.heap.size, o) :: bs) := by
  have hG := h.g.lt
  refine ⟨h.bel.alloc h.bel.size o, h.lo, h.g.of (heap_alloc hG), fun p hp => ?_⟩
  rcases List.mem_cons.1 hp with rfl | hp
  · exact ⟨by show w2.heap.size ≠ G; omega, h.bel.size, heap_alloc_new w2 o⟩
  · have hb := h.bs p hp
    exact ⟨hb.1, hb.2.1, (heap_alloc (Array.getElem?_eq_some_iff.1 hb.2.2).1).trans hb.2.2⟩

theorem Pre.move {w w2 w3 : World} {G tG : Nat} {c c' : Array Value} {bs : List (Nat × Obj)} (h : Pre w w2 G tG c bs) (hb : Below w.heap.size w w3) (ho : ∀ j, j < w2.heap.size → j ≠ G → w3.heap[j]? = w2.heap[j]?) (hg : GB w3 G tG c') : Pre w w3 G tG c' bs :=
  ⟨hb, h.lo, hg, fun p hp => ⟨(h.bs p hp).1, (h.bs p hp).2.1, (ho p.1 (Array.getElem?_eq_some_iff.1 (h.bs p hp).2.2).1 (h.bs p hp).1).trans (h.bs p hp).2.2⟩⟩

theorem Pre.drop {w w2 : World} {G tG : Nat} {c : Array Value} {bs bs' : List (Nat × Obj)} (h : Pre w w2 G tG c bs) (hs : ∀ p, p ∈ bs' → p ∈ bs) : Pre w w2 G tG c bs' := ⟨h.bel, h.lo, h.g, fun p hp => h.bs p (hs p hp)⟩

theorem Pre.at {w w2 : World} {G tG : Nat} {c : Array Value} {bs : List (Nat × Obj)} (h : Pre w w2 G tG c bs) {b t : Nat} {d : Array Value} (hm : (b, Obj.cells d t (0, 0)) ∈ bs) : GB w2 b t d := (h.bs _ hm).2.2

theorem Pre.start (w : World) (o : Obj) (c : Array Value) (tG : Nat) (k : Obj) : Pre w (((w.alloc o).alloc (.cells c tG)).alloc k) (w.heap.size + 1) tG c [(w.heap.size + 2, k), (w.heap.size, o)] := by
  have e1 : (w.alloc o).heap.size = w.heap.size + 1 := by simp
  have h0 : Pre w ((w.alloc o).alloc (.cells c tG)) (w.heap.size + 1) tG c [(w.heap.size, o)] := by
    refine ⟨Below.step (below_alloc _ _) (below_alloc _ _), by omega, ?_, fun p hp => ?_⟩
    · show ((w.alloc o).alloc (.cells c tG)).heap[w.heap.size + 1]? = _
      rw [← e1, heap_alloc_new]
    · rw [List.mem_singleton] at hp
      subst hp
      exact ⟨by show w.heap.size ≠ w.heap.size + 1; omega, Nat.le_refl _, (heap_alloc (by omega)).trans (heap_alloc_new w o)⟩
  have h1 := h0.alloc k
  have e2 : ((w.alloc o).alloc (.cells c tG)).heap.size = w.heap.size + 2 := by simp
  rw [e2] at h1
  exact h1

theorem ownsRow_move {w w' : World} {base base' : Nat} {e : TypeId} {size : Nat} {v : Value} {n : Nat} {xs : List Value} (h : w.ownsRow base e size v n xs) (hb : base' ≤ base) (ho : ∀ j, base ≤ j → j < w.heap.size → w'.heap[j]? = w.heap[j]?) : w'.ownsRow base' e size v n xs := by
  obtain ⟨h1, h2⟩ := h
  refine ⟨h1, ?_⟩
  rcases h2 with h2 | ⟨g, cap, cur, hv, hg, hh, r⟩
  · exact Or.inl h2
  · exact Or.inr ⟨g, cap, cur, hv, Nat.le_trans hb hg, (ho g hg (Array.getElem?_eq_some_iff.1 hh).1).trans hh, r⟩

def zn : List Value := [.int .i64 0, .int .i64 0, .int .i64 0, .int .i64 0, .slice none 0 0, .int .i64 0, .slice none 0 0]
def nk : List Value := [.int .i64 77777, .int .i64 0, .int .i64 0, .int .i64 0, .slice none 0 0, .int .i64 0, .slice none 0 0]

/-- What was handed over (no plan, no database), in lists of its own: the struct at block G, and all the blocks. -/
structure Giv (w w' : World) (G tG tC tA tS tI tT tN tR tL : Nat) (ts : List TableD) (q : QueryV) (bc bf bk bu be bo bw bp bd : Nat) (v : Value) (A : Nat → Nat) (k1 k2 s1 i1 s2 i2 : Nat) : Prop where
  bel : Below w.heap.size w w'
  lo : w.heap.size ≤ G
  g : GB w' G tG #[.slice (some ⟨bc, 0, none⟩) ts.length (ts.length + 2), .slice (some ⟨bf, 0, none⟩) q.src.xs.length (q.src.xs.length + 2), .slice (some ⟨bw, 0, none⟩) q.wh.length (q.wh.length + 2), .bool q.group,
    .slice (some ⟨bk, 0, none⟩) q.keys.xs.length (q.keys.xs.length + 2), .slice (some ⟨bu, 0, none⟩) q.sums.xs.length (q.sums.xs.length + 2), .slice (some ⟨be, 0, none⟩) q.sel.xs.length (q.sel.xs.length + 2), .slice (some ⟨bo, 0, none⟩) q.ord.xs.length (q.ord.xs.length + 2),
    .slice (some ⟨bp, 0, none⟩) 0 2, .slice (some ⟨bd, 0, none⟩) 0 2, .slice (some ⟨bc, 0, none⟩) (ts.length + 2) (ts.length + 2), .slice (some ⟨bw, 0, none⟩) (q.wh.length + 2) (q.wh.length + 2), v, .slice (some ⟨bp, 0, none⟩) 2 2, .slice (some ⟨bd, 0, none⟩) 2 2, .slice none 0 0]
  cat : GB w' bc tT (lentTabs ts)
  src : GB w' bf tI (lentCells q.src.xs)
  keys : GB w' bk tI (lentCells q.keys.xs)
  sums : GB w' bu tI (lentCells q.sums.xs)
  sel : GB w' be tI (lentCells q.sel.xs)
  ord : GB w' bo tI (lentCells q.ord.xs)
  row : w'.rowIs bw tC (q.wh.length + 2) (fun i => if i < q.wh.length then .slice (some ⟨A i, 0, none⟩) (q.wh.getD i lz).cs.length ((q.wh.getD i lz).cs.length + 2) else if i = q.wh.length then .slice (some ⟨k1, 0, none⟩) 1 1 else .slice (some ⟨k2, 0, none⟩) 1 1)
  al : ∀ i, i < q.wh.length → GB w' (A i) tS (lentConds (q.wh.getD i lz).cs)
  own : w'.ownsRow w.heap.size tA 1 v q.wh.length ((List.range q.wh.length).map fun i => .slice (some ⟨A i, 0, none⟩) ((q.wh.getD i lz).cs.length + 2) ((q.wh.getD i lz).cs.length + 2))
  h1 : GB w' k1 tS ic.toArray
  h2 : GB w' k2 tS ic.toArray
  plan : GB w' bp tN (nk ++ nk).toArray
  db : GB w' bd tR #[.slice (some ⟨s1, 0, none⟩) 1 1, .slice (some ⟨s2, 0, none⟩) 1 1]
  r1 : GB w' s1 tL #[.slice (some ⟨i1, 0, none⟩) 1 1]
  r2 : GB w' s2 tL #[.slice (some ⟨i2, 0, none⟩) 1 1]
  q1 : GB w' i1 tI #[.int .i64 77777]
  q2 : GB w' i2 tI #[.int .i64 77777]

end Go.Scout
