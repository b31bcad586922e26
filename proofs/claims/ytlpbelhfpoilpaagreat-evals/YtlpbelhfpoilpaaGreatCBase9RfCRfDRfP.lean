import Derived.Deep.AppendLies
import Derived.RegionTactic
import Derived.Deep.RegionLaw
import Derived.Test.YtlpbelhfpoilpaaGreatCGrFGrGGrHGrI
import Derived.Test.YtlpbelhfpoilpaaGreatCGrEGrMRfBBase8
set_option linter.all false
namespace Go.Scout
open Go.RowKit

/-- While the struct is filled: the struct's cells, and the blocks that were made beside it. -/
structure Pre (w w2 : World) (G tG : Nat) (c : Array Value) (bs : List (Nat × Obj)) : Prop where
  bel : Below w.heap.size w w2
  lo : w.heap.size ≤ G
  g : GB w2 G tG c
  bs : ∀ p, p ∈ bs → p.1 ≠ G ∧ w.heap.size ≤ p.1 ∧ w2.heap[p.1]? = some p.2

theorem Pre.store {w w2 : World} {G tG : Nat} {c : Array Value} {bs : List (Nat × Obj)} (h : Pre w w2 G tG c bs) (i : Nat) (v : Value) : Pre w (w2.setCell ⟨G, i, none⟩ v) G tG (c.setIfInBounds i v) bs :=
  ⟨h.bel.setCell (p := ⟨G, i, none⟩) h.lo v, h.lo, h.g.set i v, fun p hp => ⟨(h.bs p hp).1, (h.bs p hp).2.1, (heap_setCell (h.bs p hp).1).trans (h.bs p hp).2.2⟩⟩

theorem Pre.alloc {w w2 : World} {G tG : Nat} {c : Array Value} {bs : List (Nat × Obj)} (h : Pre w w2 G tG c bs) (o : Obj) : Pre w (w2.alloc o) G tG c ((w2.heap.size, o) :: bs) := by
  have hG := h.g.lt
  refine ⟨h.bel.alloc h.bel.size o, h.lo, h.g.of (heap_alloc hG), fun p hp => ?_⟩
  rcases List.mem_cons.1 hp with rfl | hp
  · exact ⟨by show w2.heap.size ≠ G; omega, h.bel.size, heap_alloc_new w2 o⟩
  · have hb := h.bs p hp
    exact ⟨hb.1, hb.2.1, (heap_alloc (Array.getElem?_eq_some_iff.1 hb.2.2).1).trans hb.2.2⟩

theorem Pre.move {w w2 w3 : World} {G tG : Nat} {c c' : Array Value} {bs : List (Nat × Obj)} (h : Pre w w2 G tG c bs) (hb : Below w.heap.size w w3) (ho : ∀ j, j < w2.heap.size → j ≠ G → w3.heap[j]? = w2.heap[j]?) (hg : GB w3 G tG c') : Pre w w3 G tG c' bs :=
  ⟨hb, h.lo, hg, fun p hp => ⟨(h.bs p hp).1, (h.bs p hp).2.1, (ho p.1 (Array.getElem?_eq_some_iff.1 (h.bs p hp).2.2).1 (h.bs p hp).1).trans (h.bs p hp).2.2⟩⟩

theorem Pre.drop {w w2 : World} {G tG : Nat} {c : Array Value} {bs bs' : List (Nat × Obj)} (h : Pre w w2 G tG c bs) (hs : ∀ p, p ∈ bs' → p ∈ bs) : Pre w w2 G tG c bs' := ⟨h.bel, h.lo, h.g, fun p hp => h.bs p (hs p hp)⟩

theorem Pre.at {w w2 : World} {G tG : Nat} {c : Array Value} {bs : List (Nat × Obj)} (h : Pre w w2 G tG c bs) {b t : Nat} {d : Array Value} (hm : (b, Obj.cells d t (0, 0)) ∈ bs) : GB w2 b t d := (h.bs _ hm).2.2

theorem Pre.start (w : World) (o : Obj) (c : Array Value) (tG : Nat) (k : Obj) : Pre w (((w.alloc o).alloc (.cells c tG)).alloc k) (w.heap.size + 1) tG c [(w.heap.size + 2, k), (w.heap.size, o)] := by
  have e1 : (w.alloc o).heap.size = w.heap.size + 1 := by simp
  have h0 : Pre w ((w.alloc o).alloc (.cells c tG)) (w.heap.size + 1) tG c [(w.heap.size, o)] := by
    refine ⟨Below.step (below_alloc _ _) (below_alloc _ _), by omega, ?_, fun p hp => ?_⟩
    · show ((w.alloc o).alloc (.cells c tG)).heap[w.heap.size + 1]? = _
      rw [← e1, heap_alloc_new]
    · rw [List.mem_singleton] at hp
      subst hp
      exact ⟨by show w.heap.size ≠ w.heap.size + 1; omega, Nat.le_refl _, (heap_alloc (by omega)).trans (heap_alloc_new w o)⟩
  have h1 := h0.alloc k
  have e2 : ((w.alloc o).alloc (.cells c tG)).heap.size = w.heap.size + 2 := by simp
  rw [e2] at h1
  exact h1

theorem ownsRow_move {w w' : World} {base base' : Nat} {e : TypeId} {size : Nat} {v : Value} {n : Nat} {xs : List Value} (h : w.ownsRow base e size v n xs) (hb : base' ≤ base) (ho : ∀ j, base ≤ j → j < w.heap.size → w'.heap[j]? = w.heap[j]?) : w'.ownsRow base' e size v n xs := by
  obtain ⟨h1, h2⟩ := h
  refine ⟨h1, ?_⟩
  rcases h2 with h2 | ⟨g, cap, cur, hv, hg, hh, r⟩
  · exact Or.inl h2
  · exact Or.inr ⟨g, cap, cur, hv, Nat.le_trans hb hg, (ho g hg (Array.getElem?_eq_some_iff.1 hh).1).trans hh, r⟩

def zn : List Value := [.int .i64 0, .int .i64 0, .int .i64 0, .int .i64 0, .slice none 0 0, .int .i64 0, .slice none 0 0]
def nk : List Value := [.int .i64 77777, .int .i64 0, .int .i64 0, .int .i64 0, .slice none 0 0, .int .i64 0, .slice none 0 0]

/-- What was handed over (no plan, no database), in lists of its own: the struct at block G, and all the blocks. -/
structure Giv (w w' : World) (G tG tC tA tS tI tT tN tR tL : Nat) (ts : List TableD) (q : QueryV) (bc bf bk bu be bo bw bp bd : Nat) (v : Value) (A : Nat → Nat) (k1 k2 s1 i1 s2 i2 : Nat) : Prop where
  bel : Below w.heap.size w w'
  lo : w.heap.size ≤ G
  g : GB w' G tG #[.slice (some ⟨bc, 0, none⟩) ts.length (ts.length + 2), .slice (some ⟨bf, 0, none⟩) q.src.xs.length (q.src.xs.length + 2), .slice (some ⟨bw, 0, none⟩) q.wh.length (q.wh.length + 2), .bool q.group,
    .slice (some ⟨bk, 0, none⟩) q.keys.xs.length (q.keys.xs.length + 2), .slice (some ⟨bu, 0, none⟩) q.sums.xs.length (q.sums.xs.length + 2), .slice (some ⟨be, 0, none⟩) q.sel.xs.length (q.sel.xs.length + 2), .slice (some ⟨bo, 0, none⟩) q.ord.xs.length (q.ord.xs.length + 2),
    .slice (some ⟨bp, 0, none⟩) 0 2, .slice (some ⟨bd, 0, none⟩) 0 2, .slice (some ⟨bc, 0, none⟩) (ts.length + 2) (ts.length + 2), .slice (some ⟨bw, 0, none⟩) (q.wh.length + 2) (q.wh.length + 2), v, .slice (some ⟨bp, 0, none⟩) 2 2, .slice (some ⟨bd, 0, none⟩) 2 2, .slice none 0 0]
  cat : GB w' bc tT (lentTabs ts)
  src : GB w' bf tI (lentCells q.src.xs)
  keys : GB w' bk tI (lentCells q.keys.xs)
  sums : GB w' bu tI (lentCells q.sums.xs)
  sel : GB w' be tI (lentCells q.sel.xs)
  ord : GB w' bo tI (lentCells q.ord.xs)
  row : w'.rowIs bw tC (q.wh.length + 2) (fun i => if i < q.wh.length then .slice (some ⟨A i, 0, none⟩) (q.wh.getD i lz).cs.length ((q.wh.getD i lz).cs.length + 2) else if i = q.wh.length then .slice (some ⟨k1, 0, none⟩) 1 1 else .slice (some ⟨k2, 0, none⟩) 1 1)
  al : ∀ i, i < q.wh.length → GB w' (A i) tS (lentConds (q.wh.getD i lz).cs)
  own : w'.ownsRow w.heap.size tA 1 v q.wh.length ((List.range q.wh.length).map fun i => .slice (some ⟨A i, 0, none⟩) ((q.wh.getD i lz).cs.length + 2) ((q.wh.getD i lz).cs.length + 2))
  h1 : GB w' k1 tS ic.toArray
  h2 : GB w' k2 tS ic.toArray
  plan : GB w' bp tN (nk ++ nk).toArray
  db : GB w' bd tR #[.slice (some ⟨s1, 0, none⟩) 1 1, .slice (some ⟨s2, 0, none⟩) 1 1]
  r1 : GB w' s1 tL #[.slice (some ⟨i1, 0, none⟩) 1 1]
  r2 : GB w' s2 tL #[.slice (some ⟨i2, 0, none⟩) 1 1]
  q1 : GB w' i1 tI #[.int .i64 77777]
  q2 : GB w' i2 tI #[.int .i64 77777]

end Go.Scout

namespace Go.Scout
open Go.RowKit

/-- append by the equation of its run, in a region that draws no order. -/
theorem wpList_append_run {P : Program} {w : World} {ops : Array Oper} {rest : List Oper} {o : Oper} {a : Act} {Q : Exit → Act → World → Prop} (hgd : o.guard = none) (s x : Operand) (t : TypeId)
    (ho : o.op = .call { callee := .builtin .append, args := #[s, x], argTypes := #[t, t] }) (v u v' : Value) (w' : World) (hs : a.eval s = v) (hx : a.eval x = u)
    (hrun : (Builtin.append_ #[t, t] o.type #[v, u]).run P w = .ok v' w') (h : wpList P ops Q rest (a.put o.dst v') w') : wpList P ops Q (o :: rest) a w := by
  refine wpList_plain hgd fun K hK => ?_
  unfold Oper.wp execOp
  simp only [ho, resolve, invoke, builtin, Sem.run_bind, Sem.run_pure, Result.andThen_ok, List.map_toArray, List.map_cons, List.map_nil, hs, hx, hrun]
  exact hK _ _ h

theorem ownEl_cells {e : TypeId} {x : IntsV} {W : World} (h : (ownEl e).At x W) {b : Nat} (hb : rowEl.blk x = some b) : ∃ cur, W.heap[b]? = some (.cells cur e (0, 0)) := by
  obtain ⟨a, ha, rfl⟩ := rowEl_blk hb
  rcases h.2.2 with ⟨h1, _⟩ | ⟨g, cap, cur, h1, _, h3, _⟩
  · unfold IntsV.val at h1
    rw [ha] at h1
    cases h1
  · unfold IntsV.val at h1
    rw [ha] at h1
    injection h1 with h1
    cases h1
    exact ⟨cur, h3⟩

/-- A list of rows of one's own; each row is a block's alone. -/
structure Listed (tI tE : TypeId) (base : Nat) (v : Value) (ys : List IntsV) (W : World) : Prop where
  own : W.ownsRow base tI 1 v ys.length (ys.map IntsV.val)
  at' : ∀ y ∈ ys, (ownEl tE).At y W

theorem own_cells {e : TypeId} {base n : Nat} {v : Value} {xs : List Value} {W : World} (h : W.ownsRow base e 1 v n xs) {b : Nat} (hb : v.ownBlock = some b) : ∃ cur, W.heap[b]? = some (.cells cur e (0, 0)) := by
  rcases h.2 with ⟨rfl, _⟩ | ⟨g, cap, cur, rfl, _, h3, _⟩
  · cases hb
  · cases hb
    exact ⟨cur, h3⟩

theorem own_apart {tI tE : TypeId} (hne : tI ≠ tE) {base n : Nat} {v : Value} {xs : List Value} {W : World} (h : W.ownsRow base tI 1 v n xs) {x : IntsV} (hx : (ownEl tE).At x W) {b : Nat} (hb : rowEl.blk x = some b) : v.ownBlock ≠ some b := by
  intro e
  obtain ⟨c1, h1⟩ := own_cells h e
  obtain ⟨c2, h2⟩ := ownEl_cells hx hb
  rw [h1] at h2
  injection h2 with h2
  injection h2 with _ h2
  exact hne h2

theorem Listed.nil (tI tE : TypeId) (base : Nat) (W : World) : Listed tI tE base (.slice none 0 0) [] W := ⟨World.ownsRow_nil _ _ _ _, fun y hy => by cases hy⟩

theorem Listed.below {tI tE : TypeId} {base : Nat} {v : Value} {ys : List IntsV} {W W' : World} (h : Listed tI tE base v ys W) (hb : Below W.heap.size W W') : Listed tI tE base v ys W' :=
  ⟨ownsRow_move h.own (Nat.le_refl _) (fun j _ hj => hb.block j hj), fun y hy => (ownEl tE).keep (h.at' y hy) hb.size (fun b hb' _ => hb.block b hb')⟩

theorem Listed.lower {tI tE : TypeId} {base base' : Nat} {v : Value} {ys : List IntsV} {W : World} (h : Listed tI tE base v ys W) (hb : base' ≤ base) : Listed tI tE base' v ys W :=
  ⟨ownsRow_move h.own hb (fun j _ _ => rfl), h.at'⟩

/-- Rows that others hold stay where a list of another type is written into. -/
theorem ownEl_other {tI tE : TypeId} (hne : tI ≠ tE) {base n : Nat} {v : Value} {xs : List Value} {W W' : World} (h : W.ownsRow base tI 1 v n xs) (hk : Kept (fun b => v.ownBlock ≠ some b) W W') {x : IntsV} (hx : (ownEl tE).At x W) : (ownEl tE).At x W' :=
  (ownEl tE).keep hx hk.size (fun b hb hbx => hk.block b hb (own_apart hne h hx hbx))

theorem Listed.rows {tI tE : TypeId} {base : Nat} {v : Value} {ys : List IntsV} {W : World} (h : Listed tI tE base v ys W) (hl : ys.length ≤ 1000000) : ∃ ao cap, v = .slice ao ys.length cap ∧ RowsAt W ao ys := by
  rcases h.own.2 with ⟨h1, h2⟩ | ⟨g, cap, cur, h1, h2, h3, h4, h5, h6, h7⟩
  · have : ys = [] := List.eq_nil_of_length_eq_zero (by omega)
    subst this
    exact ⟨none, 0, h1, ⟨by simp, fun i hi => absurd hi (by simp), fun i hi => absurd hi (by simp)⟩⟩
  · refine ⟨some ⟨g, 0, none⟩, cap, h1, by omega, fun i hi => ⟨g, 0, rfl, ?_⟩, fun i hi => ?_⟩
    · have hi' : i < ys.length := hi
      have h8 : (cur.toList.take (ys.length * 1))[i]? = some (ys.getD i iz).val := by
        rw [h7, List.getElem?_map]
        simp [List.getD, hi']
      rw [List.getElem?_take_of_lt (by omega)] at h8
      rw [Nat.zero_add]
      simp only [World.cell?, h3]
      simpa using h8
    · exact (h.at' _ (getD_memR hi)).1.1

end Go.Scout
namespace Go.Proofs.YtlpbelhfpoilpaaGreat
open Go.RowKit Go.Scout

theorem Tryz.ne_types : 23 ≠ 3 := by decide

/-- A number more. -/
theorem push_int (W : World) (base : Nat) (v : Value) (xs : List Int) (hown : W.ownsRow base 3 1 v xs.length (xs.map (Value.int .i64))) (hl : xs.length ≤ 1000000) (hb : base ≤ W.heap.size) (x : Int) (ty : TypeId) :
    ∃ v' w', (Builtin.append_ #[23, 23] ty #[v, .slice (some ⟨W.heap.size, 0, none⟩) 1 1]).run Tryz.prog (W.alloc (.cells #[.int .i64 x] 3)) = .ok v' w' ∧
      w'.ownsRow base 3 1 v' (xs ++ [x]).length ((xs ++ [x]).map (Value.int .i64)) ∧ Kept (fun b => v.ownBlock ≠ some b) W w' ∧ (∃ a m c, v' = .slice a m c) ∧ (v'.ownBlock = v.ownBlock ∨ v'.ownBlock = some (W.heap.size + 1)) := by
  obtain ⟨i0, hi, hz0, hz1, hz2⟩ := info_parts Tryz.infoInt
  obtain ⟨v', w', hr, ho, hg, _, hat⟩ := run_append_own_at (P := Tryz.prog) (W.alloc (.cells #[.int .i64 x] 3)) base 23 ty 3 i0 (.int .i64 0) 1 8 Tryz.underlying23 hi hz0 hz1 hz2 rfl (by decide) v xs.length (xs.map (Value.int .i64)) (hown.alloc _) ⟨W.heap.size, 0, none⟩ 1 1 [.int .i64 x] rfl
    (World.news_of_block (cs := #[.int .i64 x]) (t := 3) (fr := (0, 0)) (heap_alloc_new W _)) (fun u hu => by rw [List.mem_singleton] at hu; rw [hu]; rfl) (by unfold maxLen; omega) (by omega) (by rw [World.size_alloc]; omega)
  refine ⟨v', w', hr, by rw [List.length_append, List.map_append]; exact ho, (Kept.alloc _ _).trans (Kept.grown hg (fun r e hr => hr e)), ownsRow_slice ho, by rw [World.size_alloc] at hat; exact hat⟩

/-- A row more. -/
theorem push_row (W : World) (base : Nat) (v : Value) (ys : List IntsV) (hL : Listed 23 3 base v ys W) (hl : ys.length ≤ 1000000) (hb : base ≤ W.heap.size) (x : IntsV) (hx : (ownEl 3).At x W) (ty : TypeId) :
    ∃ v' w', (Builtin.append_ #[29, 29] ty #[v, .slice (some ⟨W.heap.size, 0, none⟩) 1 1]).run Tryz.prog (W.alloc (.cells #[x.val] 23)) = .ok v' w' ∧
      Listed 23 3 base v' (ys ++ [x]) w' ∧ Kept (fun b => v.ownBlock ≠ some b) W w' ∧ (∃ a m c, v' = .slice a m c) ∧ (v'.ownBlock = v.ownBlock ∨ v'.ownBlock = some (W.heap.size + 1)) := by
  obtain ⟨i0, hi, hz0, hz1, hz2⟩ := info_parts Tryz.infoInts
  obtain ⟨v', w', hr, ho, hg, _, hat⟩ := run_append_own_at (P := Tryz.prog) (W.alloc (.cells #[x.val] 23)) base 29 ty 23 i0 (.slice none 0 0) 1 24 Tryz.underlying29 hi hz0 hz1 hz2 rfl (by decide) v ys.length (ys.map IntsV.val) (hL.own.alloc _) ⟨W.heap.size, 0, none⟩ 1 1 [x.val] rfl
    (World.news_of_block (cs := #[x.val]) (t := 23) (fr := (0, 0)) (heap_alloc_new W _)) (fun u hu => by rw [List.mem_singleton] at hu; rw [hu]; rfl) (by unfold maxLen; omega) (by omega) (by rw [World.size_alloc]; omega)
  have hk : Kept (fun b => v.ownBlock ≠ some b) W w' := (Kept.alloc _ _).trans (Kept.grown hg (fun r e hr => hr e))
  refine ⟨v', w', hr, ⟨by rw [List.length_append, List.map_append]; exact ho, fun y hy => ?_⟩, hk, ownsRow_slice ho, by rw [World.size_alloc] at hat; exact hat⟩
  rcases List.mem_append.1 hy with hy | hy
  · exact ownEl_other Tryz.ne_types hL.own hk (hL.at' y hy)
  · rw [List.mem_singleton] at hy
    subst hy
    exact ownEl_other Tryz.ne_types hL.own hk hx

end Go.Proofs.YtlpbelhfpoilpaaGreat

namespace Go.Scout
open Go.RowKit

theorem pickN_len (xs cs : List Int) : (pickN xs cs).length = cs.length := by simp [pickN]
theorem pickN_snoc {xs cs : List Int} {k : Nat} (hk : k < cs.length) : (pickN xs cs).take k ++ [xs.getD cs[k].toNat 0] = (pickN xs cs).take (k + 1) := by
  rw [List.take_succ_eq_append_getElem (by rw [pickN_len]; exact hk)]
  simp [pickN]

end Go.Scout
namespace Go.Proofs.YtlpbelhfpoilpaaGreat
open Go.RowKit Go.Scout

set_option maxRecDepth 20000 in
set_option maxHeartbeats 8000000 in
theorem picked_any (q : QueryV) (ao : Option Addr) (cap : Nat) (rs : List IntsV) (w : World) (hs : q.sel.At w) (hr : RowsAt w ao rs) (hl : rs.length ≤ 1000000) (hsl : q.sel.xs.length ≤ 8) (hin : ∀ r ∈ rs, allB q.sel.xs r.xs.length = true) :
    Calls Tryz.prog 26 #[.agg q.cells, .slice ao rs.length cap] w fun e w' => ∃ v ys, e = .returned v ∧ ys.map IntsV.xs = (rs.map IntsV.xs).map (fun r => pickN r q.sel.xs) ∧ Listed 23 3 w.heap.size v ys w' ∧ Below w.heap.size w w' := by
  have hb := below_alloc w (.cells q.cells 26)
  obtain ⟨w1, hw1⟩ : ∃ w1, w.alloc (.cells q.cells 26) = w1 := ⟨_, rfl⟩
  have x5 : w1.cell? ⟨w.heap.size, 5, none⟩ = some q.sel.val := by rw [← hw1]; unfold QueryV.cells; simp
  have HW1 : Hid _ := hw1
  rw [hw1] at hb
  have HR : Hid (RowsAt w1 ao rs) := hr.below hb
  have HS : Hid (q.sel.At w1) := IntsAt.below hb hs
  have HB : Hid _ := hb
  have HIN : Hid _ := hin
  have hbs0 := hb.size
  clear hs hr hb hw1 hin
  obtain ⟨src, wad, wcap, wh, group, keys, sums, ⟨lad, lcap, sel⟩, ord⟩ := q
  unfold QueryV.cells IntsV.val at *
  simp only at *
  go_enter Tryz.func26, Tryz.ntmps26
  go_wp2_with fail
  rw [HW1.out]
  go_loopw [5, 6] (fun v iv wr => ∃ (i : Nat) (ys : List IntsV), i ≤ rs.length ∧ iv = .int .i64 i ∧ ys.length = i ∧ Hid (ys.map IntsV.xs = ((rs.take i).map IntsV.xs).map (fun r => pickN r sel)) ∧ Hid (Listed 23 3 w1.heap.size v ys wr) ∧ Below w1.heap.size w1 wr) (fun _ iv _ => rs.length - (intOf iv).toNat)
  case atStart => exact ⟨0, [], Nat.zero_le _, rfl, rfl, rfl, Listed.nil _ _ _ _, Below.refl _ _⟩
  case round =>
    obtain ⟨i, ys, hil, rfl, hyl, HY, HL, hbr⟩ := hrel
    by_cases hlt : i < rs.length
    · obtain ⟨b, off, rfl, hcs⟩ := CellsAt.get HR.out.2.1 hlt
      have HCI : Hid _ := hcs i hlt
      have hat := HR.out.2.2 i hlt
      have hin1 := HIN.out (rs.getD i iz) (getD_memR hlt)
      have HYS : Hid (ys.map IntsV.xs ++ [pickN (rs.getD i iz).xs sel] = ((rs.take (i + 1)).map IntsV.xs).map (fun r => pickN r sel)) := show _ = _ by
        rw [HY.out, ← take_snoc rs iz hlt]
        simp
      generalize rs.getD i iz = x at *
      obtain ⟨xad, xcap, xs⟩ := x
      unfold IntsV.val IntsV.At at *
      simp only at *
      have hxl : xs.length ≤ 1152921504606846976 := hat.1
      have HX : Hid _ := hat
      have HI1 : Hid _ := hin1
      obtain ⟨oa, om, oc, rfl⟩ := ownsRow_slice HL.out.own
      clear hcs hat hin1 HY
      go_wp2
      have HBK : Hid _ := hbr
      obtain ⟨wk, hwk⟩ : ∃ wk, wk = wr := ⟨_, rfl⟩
      rw [← hwk] at HBK HL ⊢
      clear hbr hwk
      go_loopw [7, 8] (fun v kv wr => ∃ (k : Nat), k ≤ sel.length ∧ kv = .int .i64 k ∧ Hid (wr.ownsRow wk.heap.size 3 1 v k (((pickN xs sel).take k).map (Value.int .i64))) ∧ Below wk.heap.size wk wr) (fun _ kv _ => sel.length - (intOf kv).toNat)
      case atStart => exact ⟨0, Nat.zero_le _, rfl, World.ownsRow_nil _ _ _ _, Below.refl _ _⟩
      case round =>
        obtain ⟨k, hkl, rfl, HO, hbr⟩ := hrel
        have hb1 := Below.step HBK.out hbr
        have h5 := cell_below hb1 x5
        have hsz := hbr.size
        by_cases hkt : k < sel.length
        · have hci := cell_below hb1 HCI.out
          obtain ⟨sb, so, rfl, hsc⟩ := IntsAt.get HS.out hkt
          have hck := cell_below hb1 (hsc k hkt)
          have hcv : sel.getD k 0 = sel[k] := by simp [List.getD, hkt]
          rw [hcv] at hck
          have hbd := allB_at HI1.out hkt
          have hkx : sel[k].toNat < xs.length := by omega
          obtain ⟨xb, xo, rfl, hxc⟩ := IntsAt.get HX.out hkx
          have hxk := cell_below hb1 (hxc _ hkx)
          obtain ⟨ra, rm, rc, rfl⟩ := ownsRow_slice HO.out
          have htl : ((pickN xs sel).take k).length = k := by rw [List.length_take, pickN_len]; omega
          obtain ⟨v', w5, hr5, ho5, hk5, ⟨va, vm, vc, rfl⟩, -⟩ := push_int wr.drew wk.heap.size (.slice ra rm rc) ((pickN xs sel).take k) (by rw [htl]; exact HO.out.drew) (by omega) hsz (xs.getD sel[k].toNat 0) 23
          rw [pickN_snoc hkt] at ho5
          have htl2 : ((pickN xs sel).take (k + 1)).length = k + 1 := by rw [List.length_take, pickN_len]; omega
          rw [htl2] at ho5
          have hb5 : Below wk.heap.size wk w5 := (hbr.drew).trans (hk5.below hsz (fun b hb e => by have := (ownsRow_lt HO.out e).1; omega))
          have HO5 : Hid _ := ho5
          have HB5 : Hid _ := hb5
          clear ho5 hb5 hk5 htl htl2 hcv hsc hxc HO hbr hb1 hsz
          generalize xs.getD sel[k].toNat 0 = xv at *
          generalize hck0 : sel[k] = ck at *
          clear hck0
          obtain ⟨cn, rfl⟩ : ∃ cn : Nat, ck = (cn : Int) := ⟨ck.toNat, by omega⟩
          simp only [Int.toNat_natCast] at hkx hxk
          go_wp2
          go_region_law (refine step_append (by rfl) _ _ _ (by rfl) (.slice ra rm rc) (.slice (some ⟨wr.heap.size, 0, none⟩) 1 1) (.slice va vm vc) w5 (by rfl) (by rfl) hr5 ?_)
          all_goals
            clear hr5 hci hck hxk h5
            go_wp2
            go_roundw
            case rel => exact ⟨k + 1, by omega, by go_num, HO5.out, HB5.out⟩
            case measure => simp [intOf]; omega
        · have hkk : (pickN xs sel).take k = pickN xs sel := List.take_of_length_le (by rw [pickN_len]; omega)
          have hke : k = (pickN xs sel).length := by rw [pickN_len]; omega
          have ho := HO.out
          rw [hkk] at ho
          obtain ⟨iv, hv, hxs, hia, -⟩ := ownEl_of_own ho (by rw [pickN_len]; omega)
          have hL2 := HL.out.below hbr
          have hsz1 := hb1.size
          obtain ⟨v', w5, hr5, hL5, hk5, ⟨va, vm, vc, rfl⟩, -⟩ := push_row wr w1.heap.size (.slice oa om oc) ys hL2 (by omega) hsz1 iv hia 29
          have hb5 : Below w1.heap.size w1 w5 := hb1.trans (hk5.below hsz1 (fun b hb e => by have := (ownsRow_lt hL2.own e).1; omega))
          have HL5 : Hid _ := hL5
          have HB5 : Hid _ := hb5
          have HYF : Hid ((ys ++ [iv]).map IntsV.xs = ((rs.take (i + 1)).map IntsV.xs).map (fun r => pickN r sel)) := show _ = _ by rw [← HYS.out, List.map_append, ← hxs]; rfl
          rw [hv]
          clear hkk hke ho HO hv hxs hia hL2 hL5 hb5 hk5 HL HYS hbr hb1 hsz hsz1
          obtain ⟨iad, icap, ixs⟩ := iv
          unfold IntsV.val at hr5
          unfold IntsV.val
          simp only at *
          go_wp2_with (first | (at_builtin; refine wpList_append_run rfl (.tmp 36) (.tmp 38) 29 rfl (.slice oa om oc) (.slice (some ⟨wr.heap.size, 0, none⟩) 1 1) (.slice va vm vc) w5 rfl rfl hr5 ?_))
          clear hr5 h5
          go_wp2
          go_roundw
          case rel => exact ⟨i + 1, ys ++ [IntsV.mk iad icap ixs], by omega, by go_num, by rw [List.length_append, hyl]; rfl, HYF.out, HL5.out, HB5.out⟩
          case measure => simp [intOf]; omega
    · have hii : rs.take i = rs := List.take_of_length_le (by omega)
      rw [hii] at HY
      obtain ⟨oa, om, oc, rfl⟩ := ownsRow_slice HL.out.own
      clear hii
      go_wp2
      go_ret
      exact ⟨_, ys, rfl, HY.out, HL.out.lower hbs0, Below.step HB.out hbr⟩

end Go.Proofs.YtlpbelhfpoilpaaGreat

namespace Go.Scout
open Go.RowKit

def nnV (v : Int) : Int := if v = 1073741824 then 0 else v
def okV (v : Int) : Prop := v = 1073741824 ∨ (-1000 ≤ v ∧ v ≤ 1000)
def cntV (col : List Int) : Nat := (col.filter fun v => !decide (v = 1073741824)).length
def sumV (col : List Int) : Int := (col.map nnV).sum
def refSum (col : List Int) : Int := if cntV col = 0 then 1073741824 else sumV col

theorem cntV_snoc (col : List Int) (v : Int) : cntV (col ++ [v]) = if v = 1073741824 then cntV col else cntV col + 1 := by
  unfold cntV
  rw [List.filter_append, List.length_append]
  by_cases h : v = 1073741824
  · rw [if_pos h]; simp [h]
  · rw [if_neg h]; simp [h]
theorem sumV_snoc (col : List Int) (v : Int) : sumV (col ++ [v]) = if v = 1073741824 then sumV col else sumV col + v := by
  unfold sumV
  rw [List.map_append, List.sum_append]
  by_cases h : v = 1073741824
  · rw [if_pos h]; simp [nnV, h]
  · rw [if_neg h]; simp [nnV, h]
theorem cntV_le (col : List Int) : cntV col ≤ col.length := List.length_filter_le _ _
theorem sumV_bd : ∀ (col : List Int), (∀ v ∈ col, okV v) → -(1000 * (col.length : Int)) ≤ sumV col ∧ sumV col ≤ 1000 * (col.length : Int)
  | [], _ => by simp [sumV]
  | v :: col, h => by
    have ih := sumV_bd col (fun x hx => h x (by simp [hx]))
    have h1 := h v (by simp)
    have e : sumV (v :: col) = nnV v + sumV col := by simp [sumV]
    rw [e, List.length_cons]
    have h2 : -1000 ≤ nnV v ∧ nnV v ≤ 1000 := by
      unfold nnV okV at *
      split <;> omega
    omega
theorem sumV_none {col : List Int} (h : cntV col = 0) : sumV col = 0 := by
  unfold cntV at h
  have h1 := List.eq_nil_of_length_eq_zero h
  rw [List.filter_eq_nil_iff] at h1
  unfold sumV
  have : col.map nnV = col.map (fun _ => (0 : Int)) := List.map_congr_left fun v hv => by
    have := h1 v hv
    simp at this
    simp [nnV, this]
  rw [this]
  clear this h h1
  induction col with
  | nil => rfl
  | cons a l ih => rw [List.map_cons, List.sum_cons, ih]; rfl

/-- The row of a group, told from its rows. -/
def toldN (kc sc : List Int) (rows : List (List Int)) : List Int := pickN (rows.headD []) kc ++ [(rows.length : Int)] ++ sc.map fun c => refSum (rows.map fun r => r.getD c.toNat 0)

theorem refSum_snoc {col : List Int} {v : Int} (hc : ∀ x ∈ col, okV x) (_hv : okV v) (hl : col.length ≤ 100000) : addV (refSum col) v = refSum (col ++ [v]) := by
  unfold addV refSum
  rw [cntV_snoc, sumV_snoc]
  by_cases h : v = 1073741824
  · rw [if_pos h, if_pos h, if_pos h]
  · rw [if_neg h, if_neg h, if_neg h]
    have hb := sumV_bd col hc
    by_cases h0 : cntV col = 0
    · rw [if_pos h0, if_pos rfl, if_neg (by omega), sumV_none h0]
      omega
    · rw [if_neg h0, if_neg (by omega), if_neg (by omega)]

theorem foldAdd {sc : List Int} : ∀ (R P : List (List Int)) (g : Gr), (∀ r ∈ P ++ R, ∀ c ∈ sc, okV (r.getD c.toNat 0)) → (P ++ R).length ≤ 100000 → g.cnt = P.length → g.ss = sc.map (fun c => refSum (P.map fun r => r.getD c.toNat 0)) →
    R.foldl (fun g r => addG r sc g) g = ⟨g.key, (P ++ R).length, sc.map fun c => refSum ((P ++ R).map fun r => r.getD c.toNat 0)⟩
  | [], P, g, _, _, h1, h2 => by
    rw [List.append_nil]
    obtain ⟨k, n, s⟩ := g
    simp only at h1 h2
    subst h1 h2
    rfl
  | r :: R, P, g, h, hl, h1, h2 => by
    rw [List.foldl_cons]
    have e : P ++ r :: R = (P ++ [r]) ++ R := by simp
    have := foldAdd R (P ++ [r]) (addG r sc g) (by rw [← e]; exact h) (by rw [← e]; exact hl) (by show g.cnt + 1 = _; rw [h1]; simp) (by
      show addsN g.ss r sc = _
      rw [h2]
      unfold addsN
      rw [List.zipWith_map_left]
      apply List.ext_getElem (by simp)
      intro i hi1 hi2
      have hi : i < sc.length := by simpa using hi2
      simp only [List.getElem_zipWith, List.getElem_map, List.map_append, List.map_cons, List.map_nil]
      refine refSum_snoc (fun x hx => ?_) (h r (by simp) _ (List.getElem_mem hi)) ?_
      · obtain ⟨p, hp, rfl⟩ := List.mem_map.1 hx
        exact h p (by simp [hp]) _ (List.getElem_mem hi)
      · rw [List.length_map]
        rw [List.length_append] at hl
        omega)
    rw [this, e]
    rfl

theorem foldNew {sc : List Int} (R : List (List Int)) (key : List Int) (h : ∀ r ∈ R, ∀ c ∈ sc, okV (r.getD c.toNat 0)) (hl : R.length ≤ 100000) :
    (R.foldl (fun g r => addG r sc g) (newG key sc.length)).row = key ++ [(R.length : Int)] ++ sc.map fun c => refSum (R.map fun r => r.getD c.toNat 0) := by
  have := foldAdd (sc := sc) R [] (newG key sc.length) (by simpa using h) (by simpa using hl) rfl (by
    show List.replicate sc.length (1073741824 : Int) = _
    apply List.ext_getElem (by simp)
    intro i _ _
    simp [refSum, cntV])
  rw [this, List.nil_append]
  rfl

/-- The groups, one behind the other: that of the first row, then those of the rest. -/
def grpsF (kc sc : List Int) : Nat → List (List Int) → List (List Int)
  | 0, _ => []
  | _ + 1, [] => []
  | n + 1, r :: rs => toldN kc sc ((r :: rs).filter fun x => decide (pickN x kc = pickN r kc)) :: grpsF kc sc n ((r :: rs).filter fun x => !decide (pickN x kc = pickN r kc))

def keyG (kc : List Int) (gs : List Gr) (x : List Int) : Bool := (gs.map Gr.key).any fun k => decide (k = pickN x kc)

theorem filter_first {kc : List Int} {r : List Int} {rs : List (List Int)} : ((r :: rs).filter fun x => !decide (pickN x kc = pickN r kc)) = rs.filter fun x => !decide (pickN x kc = pickN r kc) := by
  rw [List.filter_cons_of_neg (by simp)]

theorem findK_some {ks : List (List Int)} {k : List Int} {i : Nat} (h : findK ks k = some i) : ∃ hi : i < ks.length, ks[i] = k := by
  unfold findK at h
  rw [List.findIdx?_eq_some_iff_getElem] at h
  obtain ⟨hi, h1, _⟩ := h
  exact ⟨hi, by simpa using h1⟩
theorem findK_none {ks : List (List Int)} {k : List Int} (h : findK ks k = none) : ∀ a ∈ ks, a ≠ k := by
  unfold findK at h
  rw [List.findIdx?_eq_none_iff] at h
  intro a ha e
  have := h a ha
  rw [decide_eq_false_iff_not] at this
  exact this e

theorem groups_fold {kc sc : List Int} : ∀ (rows : List (List Int)) (gs : List Gr) (n : Nat), (gs.map Gr.key).Pairwise (· ≠ ·) → rows.length ≤ n → rows.length ≤ 100000 → (∀ r ∈ rows, ∀ c ∈ sc, okV (r.getD c.toNat 0)) →
    (rows.foldl (stepG kc sc) gs).map Gr.row = (gs.map fun g => ((rows.filter fun x => decide (pickN x kc = g.key)).foldl (fun g r => addG r sc g) g).row) ++ grpsF kc sc n (rows.filter fun x => !keyG kc gs x)
  | [], gs, n, _, _, _, _ => by
    rw [List.foldl_nil, List.filter_nil]
    have e : grpsF kc sc n [] = [] := by cases n <;> rfl
    rw [e, List.append_nil]
    rfl
  | r :: rows, gs, n, hp, hn, hl, hv => by
    rw [List.foldl_cons]
    cases hf : findK (gs.map Gr.key) (pickN r kc) with
    | some i =>
      obtain ⟨hi', hki⟩ := findK_some hf
      have hi : i < gs.length := by simpa using hi'
      have hk : gs[i].key = pickN r kc := by simpa using hki
      have e1 : stepG kc sc gs r = gs.modify i (addG r sc) := by unfold stepG; rw [hf]
      have hkeys : (gs.modify i (addG r sc)).map Gr.key = gs.map Gr.key := by
        apply List.ext_getElem (by simp)
        intro j h1 h2
        rw [List.getElem_map, List.getElem_map, List.getElem_modify]
        split <;> rfl
      have hkg : ∀ x, keyG kc (gs.modify i (addG r sc)) x = keyG kc gs x := fun x => by unfold keyG; rw [hkeys]
      have hin : keyG kc gs r = true := by
        unfold keyG
        rw [List.any_eq_true]
        exact ⟨gs[i].key, List.mem_map_of_mem (List.getElem_mem hi), by simpa using hk⟩
      rw [e1, groups_fold rows _ n (by rw [hkeys]; exact hp) (by simp at hn; omega) (by simp at hl; omega) (fun x hx => hv x (by simp [hx]))]
      congr 1
      · apply List.ext_getElem (by simp)
        intro j h1 h2
        have hj : j < gs.length := by simpa using h2
        simp only [List.getElem_map, List.getElem_modify]
        by_cases hij : i = j
        · subst hij
          simp only [if_pos]
          rw [List.filter_cons_of_pos (by simpa using hk.symm), List.foldl_cons]
          rfl
        · rw [if_neg hij]
          have hne : ¬ pickN r kc = gs[j].key := by
            rw [← hk]
            have := List.pairwise_iff_getElem.1 hp
            rcases Nat.lt_or_ge i j with h | h
            · have := this i j (by simpa using hi) (by simpa using hj) h
              simpa using this
            · have := this j i (by simpa using hj) (by simpa using hi) (by omega)
              intro e
              exact this (by simpa using e.symm)
          rw [List.filter_cons_of_neg (by simpa using hne)]
      · congr 1
        rw [List.filter_cons_of_neg (by rw [hin]; simp)]
        apply List.filter_congr
        intro x _
        rw [hkg]
    | none =>
      have hno := findK_none hf
      have e1 : stepG kc sc gs r = gs ++ [addG r sc (newG (pickN r kc) sc.length)] := by unfold stepG; rw [hf]
      have hin : keyG kc gs r = false := by
        unfold keyG
        rw [List.any_eq_false]
        intro k hk
        have := hno k hk
        simpa using this
      obtain ⟨m, rfl⟩ : ∃ m, n = m + 1 := ⟨n - 1, by simp at hn; omega⟩
      have hkg : ∀ x, keyG kc (gs ++ [addG r sc (newG (pickN r kc) sc.length)]) x = (keyG kc gs x || decide (pickN r kc = pickN x kc)) := fun x => by
        unfold keyG
        rw [List.map_append, List.any_append]
        simp [addG, newG]
      have hp2 : ((gs ++ [addG r sc (newG (pickN r kc) sc.length)]).map Gr.key).Pairwise (· ≠ ·) := by
        rw [List.map_append, List.pairwise_append]
        refine ⟨hp, List.pairwise_singleton _ _, fun a ha b hb => ?_⟩
        rw [List.map_singleton, List.mem_singleton] at hb
        subst hb
        exact hno a ha
      rw [e1, groups_fold rows _ m hp2 (by simp at hn; omega) (by simp at hl; omega) (fun x hx => hv x (by simp [hx])), List.map_append, List.append_assoc]
      congr 1
      · apply List.map_congr_left
        intro g hg
        have hne : ¬ pickN r kc = g.key := fun e => hno g.key (List.mem_map_of_mem hg) e.symm
        rw [List.filter_cons_of_neg (by simpa using hne)]
      · have e2 : (r :: rows).filter (fun x => !keyG kc gs x) = r :: rows.filter (fun x => !keyG kc gs x) := List.filter_cons_of_pos (by rw [hin]; rfl)
        rw [e2]
        show _ = toldN kc sc ((r :: rows.filter (fun x => !keyG kc gs x)).filter fun x => decide (pickN x kc = pickN r kc)) :: grpsF kc sc m ((r :: rows.filter (fun x => !keyG kc gs x)).filter fun x => !decide (pickN x kc = pickN r kc))
        rw [filter_first, List.filter_filter, List.map_singleton, List.singleton_append]
        have e3 : (r :: rows.filter (fun x => !keyG kc gs x)).filter (fun x => decide (pickN x kc = pickN r kc)) = r :: rows.filter (fun x => decide (pickN x kc = pickN r kc)) := by
          rw [List.filter_cons_of_pos (by simp), List.filter_filter]
          congr 1
          apply List.filter_congr
          intro x _
          by_cases h : pickN x kc = pickN r kc
          · have : keyG kc gs x = false := by
              rw [← hin]
              unfold keyG
              rw [h]
            simp [h, this]
          · simp [h]
        rw [e3]
        congr 1
        · have e4 : (addG r sc (newG (pickN r kc) sc.length)).key = pickN r kc := rfl
          rw [e4]
          have := foldNew (sc := sc) (r :: rows.filter fun x => decide (pickN x kc = pickN r kc)) (pickN r kc) (fun x hx => by
            rcases List.mem_cons.1 hx with h | h
            · rw [h]; exact hv r (by simp)
            · exact hv x (by simp [(List.mem_filter.1 h).1])) (by
            have := List.length_filter_le (fun x => decide (pickN x kc = pickN r kc)) rows
            simp at hl ⊢
            omega)
          rw [List.foldl_cons] at this
          rw [this]
          rfl
        · congr 1
          apply List.filter_congr
          intro x _
          rw [hkg]
          have : decide (pickN r kc = pickN x kc) = decide (pickN x kc = pickN r kc) := decide_eq_decide.2 ⟨Eq.symm, Eq.symm⟩
          rw [this]
          cases keyG kc gs x <;> cases decide (pickN x kc = pickN r kc) <;> rfl

/-- The groups, as the document tells them. -/
def refGroups (kc sc : List Int) (rows : List (List Int)) : List (List Int) := if kc = [] then [toldN [] sc rows] else grpsF kc sc rows.length rows

theorem groups_ref {kc sc : List Int} {rows : List (List Int)} (hl : rows.length ≤ 100000) (hv : ∀ r ∈ rows, ∀ c ∈ sc, okV (r.getD c.toNat 0)) : (groupsN kc sc rows).map Gr.row = refGroups kc sc rows := by
  unfold groupsN refGroups startG
  by_cases hk : kc = []
  · subst hk
    rw [if_pos rfl, if_pos rfl, groups_fold rows _ rows.length (List.pairwise_singleton _ _) (Nat.le_refl _) hl hv]
    have e1 : (rows.filter fun x => decide (pickN x [] = (newG [] sc.length).key)) = rows := List.filter_eq_self.2 fun x _ => by simp [pickN, newG]
    have e2 : (rows.filter fun x => !keyG [] [newG [] sc.length] x) = [] := List.filter_eq_nil_iff.2 fun x _ => by simp [keyG, newG, pickN]
    rw [e2, List.map_singleton, e1, foldNew rows [] hv hl]
    have e3 : grpsF [] sc rows.length [] = [] := by cases rows.length <;> rfl
    rw [e3]
    rfl
  · rw [if_neg hk, if_neg hk, groups_fold rows [] rows.length List.Pairwise.nil (Nat.le_refl _) hl hv]
    rw [List.map_nil, List.nil_append]
    congr 1
    exact List.filter_eq_self.2 fun x _ => by simp [keyG]

end Go.Scout

