import Derived.Test.YtlpbelhfpoilpaaCMkrCMkrDMkrEMkrF0
set_option linter.all false
namespace Go.Scout
open Go.RowKit

theorem condVals_len (c : CondD) : c.vals.length = 5 := rfl

theorem conds_of_own {w : World} {base : Nat} {e : TypeId} {v : Value} {cs : List CondD} (h : w.ownsRow base e 5 v cs.length (cs.flatMap CondD.vals)) (hl : cs.length ≤ 100) :
    ∃ ad cap, v = .slice ad cs.length cap ∧ CondsAt w ad cs ∧ ∀ a, ad = some a → base ≤ a.block ∧ a.block < w.heap.size ∧ v.ownBlock = some a.block := by
  rcases h.2 with ⟨rfl, h0⟩ | ⟨g, cap, cur, rfl, hb, hh, hc, _, hcs, ht⟩
  · have : cs = [] := List.eq_nil_of_length_eq_zero h0
    subst this
    exact ⟨none, 0, rfl, ⟨by simp, fun i hi => absurd hi (by simp)⟩, fun a ha => by cases ha⟩
  · refine ⟨some ⟨g, 0, none⟩, cap, rfl, ⟨by omega, fun i hi => ⟨g, 0, rfl, ?_⟩⟩, fun a ha => by cases ha; exact ⟨hb, (Array.getElem?_eq_some_iff.1 hh).1, rfl⟩⟩
    have hcell : ∀ j, j < 5 → w.cell? ⟨g, 0 + i * 5 + j, none⟩ = ((cs.getD i cz).vals)[j]? := fun j hj => by
      have h1 := flat_at CondD.vals 5 condVals_len cz cs [] i j hi hj
      rw [List.append_nil] at h1
      rw [← h1, ← ht, List.getElem?_take, if_pos (by have := hi; omega)]
      simp [World.cell?, hh]
    exact ⟨hcell 0 (by omega), hcell 1 (by omega), hcell 2 (by omega), hcell 3 (by omega), hcell 4 (by omega)⟩

/-- Clauses that grow in a field of a struct. -/
structure Wheres (mb qb : Nat) (lo : Option Addr) (lc : Nat) (l : List Int) (e tq : TypeId) (W0 : World) (c : Value → Array Value) (W : World) (v : Value) (ls : List ClauseV) : Prop where
  gb : GB W qb tq (c v)
  own : W.ownsRow W0.heap.size e 1 v ls.length (ls.map ClauseV.val)
  cnd : ∀ x ∈ ls, CondsAt W x.ad x.cs ∧ ∀ a, x.ad = some a → W0.heap.size ≤ a.block ∧ a.block < W.heap.size ∧ v.ownBlock ≠ some a.block
  mkr : MakerAt mb lo lc l W
  kept : Kept (fun b => b ≠ mb ∧ b ≠ qb) W0 W

theorem Wheres.keep {mb qb : Nat} {lo : Option Addr} {lc : Nat} {l : List Int} {e tq : TypeId} {W0 : World} {c : Value → Array Value} {A B : World} {v : Value} {ls : List ClauseV} (h : Wheres mb qb lo lc l e tq W0 c A v ls) (hk : Kept (fun b => b ≠ mb) A B) (hm : MakerAt mb lo lc l B)
    (hq : qb ≠ mb) (hmb : mb < W0.heap.size) : Wheres mb qb lo lc l e tq W0 c B v ls :=
  ⟨h.gb.keep hk hq, ownsRow_keep h.own hk (fun g hg => by have := (ownsRow_lt h.own hg).1; omega), fun x hx => ⟨(h.cnd x hx).1.keep (fun a ha hlt => hk.block _ hlt (by have := ((h.cnd x hx).2 a ha).1; omega)), fun a ha => ⟨((h.cnd x hx).2 a ha).1, by have := ((h.cnd x hx).2 a ha).2.1; have := hk.size; omega, ((h.cnd x hx).2 a ha).2.2⟩⟩, hm, h.kept.trans (hk.mono fun b _ h => h.1)⟩

theorem Wheres.more {mb qb : Nat} {lo : Option Addr} {lc : Nat} {l : List Int} {e tq : TypeId} {W0 : World} {c : Value → Array Value} {A A1 B : World} {v v' : Value} {ls : List ClauseV} (h : Wheres mb qb lo lc l e tq W0 c A v ls) {f : Nat} {x : ClauseV}
    (hx : CondsAt A x.ad x.cs) (hxb : ∀ a, x.ad = some a → W0.heap.size ≤ a.block ∧ a.block < A.heap.size ∧ v.ownBlock ≠ some a.block)
    (ha : Kept (fun _ => True) A A1) (hs1 : A1.heap.size = A.heap.size + 1) (hown : B.ownsRow W0.heap.size e 1 v' (ls.length + 1) (ls.map ClauseV.val ++ [x.val])) (hg : A1.grownBy B v.ownBlock) (hat : v'.ownBlock = v.ownBlock ∨ v'.ownBlock = some A1.heap.size) (hc : (c v).setIfInBounds f v' = c v')
    (hq : qb ≠ mb) (hmb : mb < W0.heap.size) (hqb : qb < W0.heap.size) (hlo : ∀ a, lo = some a → a.block < W0.heap.size ∧ a.block ≠ qb) :
    Wheres mb qb lo lc l e tq W0 c (B.setCell ⟨qb, f, none⟩ v') v' (ls ++ [x]) := by
  have hvb : ∀ g, v.ownBlock = some g → W0.heap.size ≤ g := fun g hg => (ownsRow_lt h.own hg).1
  have hvb' : ∀ g, v'.ownBlock = some g → W0.heap.size ≤ g := fun g hg => (ownsRow_lt hown hg).1
  have hk1 : Kept (fun b => v.ownBlock ≠ some b) A B := (ha.mono fun _ _ _ => trivial).trans (Kept.grown hg (fun r e hr => hr e))
  have hk2 : Kept (fun b => v.ownBlock ≠ some b ∧ b ≠ qb) A (B.setCell ⟨qb, f, none⟩ v') := (hk1.mono fun _ _ h => h.1).trans (Kept.setCell _ _ _ (fun h => h.2 rfl))
  have hnew : ∀ b, b < A.heap.size → v.ownBlock ≠ some b → v'.ownBlock ≠ some b := fun b hb hn e => by
    rcases hat with h | h
    · exact hn (h ▸ e)
    · rw [h] at e; cases e; omega
  have hone : ∀ y : ClauseV, CondsAt A y.ad y.cs → (∀ a, y.ad = some a → W0.heap.size ≤ a.block ∧ a.block < A.heap.size ∧ v.ownBlock ≠ some a.block) → CondsAt (B.setCell ⟨qb, f, none⟩ v') y.ad y.cs ∧ ∀ a, y.ad = some a → W0.heap.size ≤ a.block ∧ a.block < (B.setCell ⟨qb, f, none⟩ v').heap.size ∧ v'.ownBlock ≠ some a.block := fun y hy hyb =>
    ⟨hy.keep (fun a ha hlt => hk2.block _ hlt ⟨(hyb a ha).2.2, by have := (hyb a ha).1; omega⟩), fun a ha => ⟨(hyb a ha).1, by have := (hyb a ha).2.1; have := hk2.size; omega, hnew _ (hyb a ha).2.1 (hyb a ha).2.2⟩⟩
  refine ⟨?_, ?_, ?_, ?_, ?_⟩
  · have hgB : GB B qb tq (c v) := h.gb.keep hk1 (fun e => by have := hvb _ e; omega)
    have := hgB.set f v'
    rwa [hc] at this
  · have := ownsRow_keep hown (s := fun b => b ≠ qb) (Kept.setCell B ⟨qb, f, none⟩ v' (fun h => h rfl)) (fun g hg => by have := hvb' g hg; omega)
    simpa using this
  · intro y hy
    rcases List.mem_append.1 hy with hy | hy
    · exact hone y (h.cnd y hy).1 (h.cnd y hy).2
    · rw [List.mem_singleton] at hy
      subst hy
      exact hone y hx hxb
  · exact h.mkr.keepN hk2 ⟨fun e => by have := hvb _ e; omega, Ne.symm hq⟩ (fun a ha => ⟨fun e => by have := hvb _ e; have := (hlo a ha).1; omega, (hlo a ha).2⟩)
  · exact ((h.kept.mono (t := fun b => (b ≠ mb ∧ b ≠ qb) ∧ b < W0.heap.size) (fun b _ h => h.1)).trans (hk2.mono fun b _ h => ⟨fun e => by have := hvb _ e; have := h.2; omega, h.1.2⟩)).mono (fun b hb h => ⟨h, hb⟩)

theorem Wheres.far {mb qb : Nat} {lo : Option Addr} {lc : Nat} {l : List Int} {e tq : TypeId} {W0 : World} {c : Value → Array Value} {A A1 B : World} {v : Value} {ls : List ClauseV} (h : Wheres mb qb lo lc l e tq W0 c A v ls)
    (ha : Kept (fun _ => True) A A1) (hg : A1.grownBy B v.ownBlock) : Kept (fun b => b < W0.heap.size) A B :=
  (ha.mono fun _ _ _ => trivial).trans (Kept.grown hg (fun r e hr => by have := (ownsRow_lt h.own e).1; omega))

theorem own_of_cond (w : World) (c : CondD) (e : TypeId) : (w.alloc (.cells c.arr e)).ownsRow w.heap.size e 5 (.slice (some ⟨w.heap.size, 0, none⟩) 1 1) 1 ([c].flatMap CondD.vals) :=
  ⟨rfl, .inr ⟨w.heap.size, 1, _, rfl, Nat.le_refl _, heap_alloc_new w _, Nat.le_refl _, by unfold maxLen; omega, rfl, rfl⟩⟩

/-- A clause that may be. -/
def ClauseOk (n : Int) (x : ClauseV) : Prop := 1 ≤ x.cs.length ∧ x.cs.length ≤ 3 ∧ ∀ c ∈ x.cs, condB c n = true

/-- A query as it is made. -/
structure QueryOk (ts : List TableD) (q : QueryV) : Prop where
  src : allB q.src.xs ts.length = true ∧ 1 ≤ q.src.xs.length ∧ q.src.xs.length ≤ 4
  wh : q.wh.length ≤ 4 ∧ ∀ x ∈ q.wh, ClauseOk (widthN ts q.src.xs) x
  out : (q.group = true ∧ q.sel.xs = [] ∧ q.keys.xs.length ≤ 3 ∧ allB q.keys.xs (widthN ts q.src.xs) = true ∧ apartB q.keys.xs = true ∧ q.sums.xs.length ≤ 2 ∧ allB q.sums.xs (widthN ts q.src.xs) = true ∧ q.ord.xs.length ≤ 2 ∧ allB q.ord.xs ((q.keys.xs.length : Int) + 1 + q.sums.xs.length) = true ∧ apartB q.ord.xs = true) ∨
    (q.group = false ∧ q.keys.xs = [] ∧ q.sums.xs = [] ∧ 1 ≤ q.sel.xs.length ∧ q.sel.xs.length ≤ 4 ∧ allB q.sel.xs (widthN ts q.src.xs) = true ∧ q.ord.xs.length ≤ 3 ∧ allB q.ord.xs q.sel.xs.length = true ∧ apartB q.ord.xs = true)

/-- The clauses that have grown lie as a query's do. -/
theorem Wheres.isIn {mb qb : Nat} {lo : Option Addr} {lc : Nat} {l : List Int} {e tq : TypeId} {W0 : World} {c : Value → Array Value} {W : World} {v : Value} {ls : List ClauseV} (h : Wheres mb qb lo lc l e tq W0 c W v ls) (hl : ls.length ≤ 100) {n : Nat} (hn : n ≤ W0.heap.size) :
    ∃ ad cap, v = .slice ad ls.length cap ∧ WhereIn n ad ls W ∧ (ad = none → cap = 0) := by
  have hmem : ∀ i, i < ls.length → ls.getD i lz ∈ ls := fun i hi => by simp [List.getD, hi]
  rcases h.own.2 with ⟨rfl, h0⟩ | ⟨g, cap, cur, rfl, hb, hh, hc, _, hcs, ht⟩
  · have : ls = [] := List.eq_nil_of_length_eq_zero h0
    subst this
    exact ⟨none, 0, rfl, ⟨⟨by simp, fun i hi => absurd hi (by simp), fun i hi => absurd hi (by simp)⟩, (fun a ha => by cases ha), fun i hi => absurd hi (by simp)⟩, fun _ => rfl⟩
  · refine ⟨some ⟨g, 0, none⟩, cap, rfl, ⟨⟨by omega, fun i hi => ⟨g, 0, rfl, ?_⟩, fun i hi => (h.cnd _ (hmem i hi)).1⟩, (fun a ha => by cases ha; exact Nat.le_trans hn hb), fun i hi a ha => Nat.le_trans hn ((h.cnd _ (hmem i hi)).2 a ha).1⟩, fun e => by cases e⟩
    have h2 : (cur.toList.take (ls.length * 1))[i]? = some (ls.getD i lz).val := by
      rw [ht]
      simp [List.getD, hi]
    have h3 : cur[i]? = some (ls.getD i lz).val := by
      rw [List.getElem?_take] at h2
      split at h2
      · simpa using h2
      · cases h2
    simp only [World.cell?, hh]
    simpa using h3

end Go.Scout

