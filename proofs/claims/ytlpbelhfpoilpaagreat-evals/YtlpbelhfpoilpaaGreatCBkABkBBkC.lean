import Derived.Test.YtlpbelhfpoilpaaGreatCBase9RfCRfDRfP
import Derived.Test.YtlpbelhfpoilpaaGreatCRfGRfAEvC
import Derived.Test.YtlpbelhfpoilpaaGreatCNwANwBNwCNwD
set_option linter.all false
namespace Go.Scout
open Go.RowKit

/-- The book: its cells, the lists that came out, each with its mark. -/
structure BookAt (W : World) (bb tB tR tI : Nat) (n : Nat) (es : List IntsV) (ms : List Int) (vi vm : Value) : Prop where
  cell : GB W bb tB #[.int .i64 n, vi, vm, .slice none 0 0, .slice none 0 0]
  ints : W.ownsRow (bb + 1) tR 1 vi es.length (es.map IntsV.val)
  marks : W.ownsRow (bb + 1) tI 1 vm ms.length (ms.map (Value.int .i64))
  len : es.length = ms.length
  ent : ∀ k, k < es.length → (es.getD k iz).At W ∧ ∀ x ∈ (es.getD k iz).xs, x = ms.getD k 0
  off : ∀ e ∈ es, ∀ b, rowEl.blk e = some b → b ≠ bb ∧ vm.ownBlock ≠ some b ∧ vi.ownBlock ≠ some b ∧ b < W.heap.size

/-- The blocks that a book leans on. -/
def BookAt.own (bb : Nat) (es : List IntsV) (vi vm : Value) (b : Nat) : Prop := b = bb ∨ vi.ownBlock = some b ∨ vm.ownBlock = some b ∨ ∃ e ∈ es, rowEl.blk e = some b

theorem ints_keep {W W' : World} {x : IntsV} (h : x.At W) (hb : ∀ b, rowEl.blk x = some b → b < W.heap.size → W'.heap[b]? = W.heap[b]?) : x.At W' :=
  ⟨h.1, h.2.keep fun a ha hl => hb _ (by show Option.map _ x.ad = _; rw [ha]; rfl) hl⟩

theorem BookAt.keep {W W' : World} {bb tB tR tI n : Nat} {es : List IntsV} {ms : List Int} {vi vm : Value} (h : BookAt W bb tB tR tI n es ms vi vm) {s : Nat → Prop} (hk : Kept s W W') (hs : ∀ b, BookAt.own bb es vi vm b → s b) : BookAt W' bb tB tR tI n es ms vi vm :=
  ⟨h.cell.of (hk.block _ h.cell.lt (hs _ (.inl rfl))), ownsRow_keep h.ints hk (fun g hg => hs _ (.inr (.inl hg))), ownsRow_keep h.marks hk (fun g hg => hs _ (.inr (.inr (.inl hg)))), h.len,
    fun k hl => ⟨ints_keep (h.ent k hl).1 (fun b hb hl' => hk.block b hl' (hs _ (.inr (.inr (.inr ⟨_, getD_memR hl, hb⟩))))), (h.ent k hl).2⟩, fun e he b hb => ⟨(h.off e he b hb).1, (h.off e he b hb).2.1, (h.off e he b hb).2.2.1, Nat.lt_of_lt_of_le (h.off e he b hb).2.2.2 hk.size⟩⟩

theorem BookAt.below {W W' : World} {bb tB tR tI n : Nat} {es : List IntsV} {ms : List Int} {vi vm : Value} (h : BookAt W bb tB tR tI n es ms vi vm) (hb : Below W.heap.size W W') : BookAt W' bb tB tR tI n es ms vi vm :=
  h.keep (Kept.of_below (s := fun _ => True) hb (fun b hb' _ => hb')) (fun _ _ => trivial)

theorem ownBlk_val (x : IntsV) (e : TypeId) {W : World} (h : (ownEl e).At x W) (b : Nat) : rowEl.blk x = some b ↔ x.val.ownBlock = some b := by
  rcases h.2.2 with ⟨h1, _⟩ | ⟨g, cap, cur, h1, _⟩
  · have h2 : x.ad = none := by unfold IntsV.val at h1; injection h1
    constructor
    · intro hb
      have : Option.map (fun a : Addr => a.block) x.ad = some b := hb
      rw [h2] at this; cases this
    · intro hb
      rw [h1] at hb; cases hb
  · have h2 : x.ad = some ⟨g, 0, none⟩ := by unfold IntsV.val at h1; injection h1
    constructor
    · intro hb
      have : Option.map (fun a : Addr => a.block) x.ad = some b := hb
      rw [h2] at this
      rw [h1]
      exact this
    · intro hb
      rw [h1] at hb
      show Option.map (fun a : Addr => a.block) x.ad = some b
      rw [h2]
      exact hb

end Go.Scout
namespace Go.Proofs.YtlpbelhfpoilpaaGreat
open Go.RowKit Go.Scout

set_option maxRecDepth 20000 in
/-- A number more; where it lies elsewhere then, all is as it was. -/
theorem push_mark (W : World) (base : Nat) (v : Value) (xs : List Int) (hown : W.ownsRow base 3 1 v xs.length (xs.map (Value.int .i64))) (hl : xs.length ≤ 1000000) (hb : base ≤ W.heap.size) (x : Int) (ty : TypeId) :
    ∃ v' w', (Builtin.append_ #[23, 23] ty #[v, .slice (some ⟨W.heap.size, 0, none⟩) 1 1]).run Tryz.prog (W.alloc (.cells #[.int .i64 x] 3)) = .ok v' w' ∧
      w'.ownsRow base 3 1 v' (xs ++ [x]).length ((xs ++ [x]).map (Value.int .i64)) ∧ Kept (fun b => v.ownBlock ≠ some b) W w' ∧ (∃ a m c, v' = .slice a m c) ∧ (v'.ownBlock = v.ownBlock ∨ (v'.ownBlock = some (W.heap.size + 1) ∧ Kept (fun _ => True) W w')) := by
  obtain ⟨v', w', hr, ho, hk, hsl, hat⟩ := push_int W base v xs hown hl hb x ty
  refine ⟨v', w', hr, ho, hk, hsl, ?_⟩
  obtain ⟨i0, hi, hz0, hz1, hz2⟩ := info_parts Tryz.infoInt
  have hnews : ∀ j u, [Value.int .i64 x][j]? = some u → (W.alloc (.cells #[.int .i64 x] 3)).cell? ((⟨W.heap.size, 0, none⟩ : Addr).add j) = some u := World.news_of_block (cs := #[.int .i64 x]) (t := 3) (fr := (0, 0)) (heap_alloc_new W _)
  rcases hown.2 with ⟨rfl, h0⟩ | ⟨g, cap, cur, rfl, hbg, hg, hnc, hcm, hcs, htake⟩
  · rcases hat with h | h
    · exact .inl h
    · exact .inr ⟨h, hk.mono fun b _ _ e => (by cases e)⟩
  · by_cases hroom : xs.length + 1 ≤ cap
    · left
      have hg' : (W.alloc (.cells #[.int .i64 x] 3)).heap[g]? = some (.cells cur 3 (0, 0)) := (heap_alloc (Array.getElem?_eq_some_iff.1 hg).1).trans hg
      have hr2 := run_append_room (P := Tryz.prog) (W.alloc (.cells #[.int .i64 x] 3)) 23 ty 3 i0 Tryz.underlying23 hi g xs.length cap cur hg' ⟨W.heap.size, 0, none⟩ 1 1 [.int .i64 x] (by rw [hz1]; rfl) hnews (fun u hu => by rw [List.mem_singleton] at hu; rw [hu]; rfl) hroom (by rw [hz1, hcs]; simp; omega)
      rw [hr2] at hr
      injection hr with hr _
      rw [← hr]
      rfl
    · right
      have hown' := hown.alloc (.cells #[.int .i64 x] 3)
      have holds : ∀ j u, (xs.map (Value.int .i64))[j]? = some u → (W.alloc (.cells #[.int .i64 x] 3)).cell? ((⟨g, 0, none⟩ : Addr).add j) = some u := hown'.cells (g := g) rfl
      have hr2 := run_append_grow (P := Tryz.prog) (W.alloc (.cells #[.int .i64 x] 3)) 23 ty 3 i0 (.int .i64 0) Tryz.underlying23 hi hz0 ⟨g, 0, none⟩ xs.length cap (xs.map (Value.int .i64)) (by rw [hz1]; simp) holds ⟨W.heap.size, 0, none⟩ 1 1 [.int .i64 x] (by rw [hz1]; rfl) hnews (by omega) (by omega) (growslice_fits (by omega) (by rw [hz2]; omega))
      rw [hr2] at hr
      injection hr with hr1 hr2'
      refine ⟨by rw [← hr1]; simp [Value.ownBlock], ?_⟩
      rw [← hr2']
      exact ((Kept.alloc _ _).trans (Kept.of_below ((Below.refl _ _).drew) (fun b hb _ => hb))).trans (Kept.alloc _ _)

end Go.Proofs.YtlpbelhfpoilpaaGreat

namespace Go.Scout
open Go.RowKit

/-- The blocks that 'keep' may change: of those that there were. -/
def Chg (bb : Nat) (vi0 vm0 : Value) (l : IntsV) (b : Nat) : Prop := b = bb ∨ vi0.ownBlock = some b ∨ vm0.ownBlock = some b ∨ rowEl.blk l = some b

/-- While a list is kept: the lists so far, the marks, the list that grows. -/
structure KQ (W0 wr : World) (bb tB tR tI n : Nat) (es fs : List IntsV) (Ms : List Int) (m : Int) (len : Nat) (v vi vm vi0 vm0 : Value) (l : IntsV) : Prop where
  cell : GB wr bb tB #[.int .i64 n, vi, vm, .slice none 0 0, .slice none 0 0]
  ints : wr.ownsRow (bb + 1) tR 1 vi (es ++ fs).length ((es ++ fs).map IntsV.val)
  marks : wr.ownsRow (bb + 1) tI 1 vm Ms.length (Ms.map (Value.int .i64))
  cur : wr.ownsRow 0 tI 1 v len ((List.replicate len m).map (Value.int .i64))
  olde : ∀ e ∈ es, e.At wr
  newe : ∀ f ∈ fs, f.At wr ∧ (∀ x ∈ f.xs, x = m) ∧ ∀ b, rowEl.blk f = some b → v.ownBlock = some b → f.ad = some ⟨b, 0, none⟩ ∧ f.xs.length ≤ len
  off : ∀ e ∈ es ++ fs, ∀ b, rowEl.blk e = some b → b ≠ bb ∧ vm.ownBlock ≠ some b ∧ vi.ownBlock ≠ some b ∧ b < wr.heap.size
  voff : ∀ b, v.ownBlock = some b → b ≠ bb ∧ vm.ownBlock ≠ some b ∧ ∀ e ∈ es, rowEl.blk e ≠ some b
  kept : Kept (fun b => ¬ Chg bb vi0 vm0 l b) W0 wr
  chg : ∀ b, b = bb ∨ vi.ownBlock = some b ∨ vm.ownBlock = some b ∨ v.ownBlock = some b → Chg bb vi0 vm0 l b ∨ W0.heap.size ≤ b
  fnew : ∀ f ∈ fs, ∀ b, rowEl.blk f = some b → Chg bb vi0 vm0 l b ∨ W0.heap.size ≤ b
  bbl : bb < W0.heap.size

section
variable {W0 wr : World} {bb tB tR tI n : Nat} {es fs : List IntsV} {Ms : List Int} {m : Int} {len : Nat} {v vi vm vi0 vm0 : Value} {l : IntsV}

theorem own_two {tA tC : TypeId} (hne : tA ≠ tC) {W : World} {b1 b2 n1 n2 : Nat} {u1 u2 : Value} {x1 x2 : List Value} (h1 : W.ownsRow b1 tA 1 u1 n1 x1) (h2 : W.ownsRow b2 tC 1 u2 n2 x2) {b : Nat} (e1 : u1.ownBlock = some b) : u2.ownBlock ≠ some b := by
  intro e2
  obtain ⟨c1, hc1⟩ := own_cells h1 e1
  obtain ⟨c2, hc2⟩ := own_cells h2 e2
  rw [hc1] at hc2
  injection hc2 with hc2
  injection hc2 with _ hc2
  exact hne hc2

theorem Kept.chg {w1 : World} {u : Value} (hk : Kept (fun b => ¬ Chg bb vi0 vm0 l b) W0 wr) (h1 : Kept (fun b => u.ownBlock ≠ some b) wr w1) (hc : ∀ b, u.ownBlock = some b → Chg bb vi0 vm0 l b ∨ W0.heap.size ≤ b) : Kept (fun b => ¬ Chg bb vi0 vm0 l b) W0 w1 :=
  hk.trans' (t := fun b => u.ownBlock ≠ some b ∨ W0.heap.size ≤ b ∧ False) (h1.mono fun b _ h => by
    rcases h with h | h
    · exact h
    · exact h.2.elim) (fun b hb h => .inl fun e => by
    rcases hc b e with h' | h'
    · exact h h'
    · omega)

/-- The list goes into the lists. -/
theorem KQ.pushI (h : KQ W0 wr bb tB tR tI n es fs Ms m len v vi vm vi0 vm0 l) (hRI : tR ≠ tI) {f : IntsV} (hf : f.val = v) (hfx : f.xs = List.replicate len m) (hfa : f.At wr) (hfb : ∀ b, rowEl.blk f = some b ↔ v.ownBlock = some b) (hf0 : ∀ b, rowEl.blk f = some b → f.ad = some ⟨b, 0, none⟩)
    {w1 : World} {vi' : Value} (hown : w1.ownsRow (bb + 1) tR 1 vi' ((es ++ fs).length + 1) ((es ++ fs).map IntsV.val ++ [f.val])) (hk : Kept (fun b => vi.ownBlock ≠ some b) wr w1) (hat : vi'.ownBlock = vi.ownBlock ∨ vi'.ownBlock = some (wr.heap.size + 1)) :
    KQ W0 (w1.setCell ⟨bb, 1, none⟩ vi') bb tB tR tI n es (fs ++ [f]) Ms m len v vi' vm vi0 vm0 l := by
  have hsz := hk.size
  have hbbi : vi.ownBlock ≠ some bb := fun e => by have := (ownsRow_lt h.ints e).1; omega
  have hbbi' : vi'.ownBlock ≠ some bb := fun e => by have := (ownsRow_lt hown e).1; omega
  have hbbm : vm.ownBlock ≠ some bb := fun e => by have := (ownsRow_lt h.marks e).1; omega
  have hbbv : v.ownBlock ≠ some bb := fun e => (h.voff bb e).1 rfl
  have hks : Kept (fun b => vi.ownBlock ≠ some b ∧ b ≠ bb) wr (w1.setCell ⟨bb, 1, none⟩ vi') := (hk.mono fun b _ h => h.1).trans (Kept.setCell _ _ _ (fun h => h.2 rfl))
  have hnew : ∀ b, b < wr.heap.size → vi'.ownBlock = some b → vi.ownBlock = some b := fun b hb e => by
    rcases hat with h' | h'
    · rw [← h']; exact e
    · rw [h'] at e; cases e; omega
  have hmi : ∀ b, vm.ownBlock = some b → vi.ownBlock ≠ some b := fun b e => own_two (Ne.symm hRI) h.marks h.ints e
  have hvi : ∀ b, v.ownBlock = some b → vi.ownBlock ≠ some b := fun b e => own_two (Ne.symm hRI) h.cur h.ints e
  have hfl : ∀ b, rowEl.blk f = some b → b < wr.heap.size := fun b hb => (ownsRow_lt h.cur ((hfb b).1 hb)).2
  refine ⟨?_, ?_, ?_, ?_, fun e he => ?_, fun g hg => ?_, fun e he b hb => ?_, h.voff, ?_, fun b hb => ?_, fun g hg b hb => ?_, h.bbl⟩
  · have h1 := (h.cell.of (hk.block bb h.cell.lt hbbi)).set 1 vi'
    exact h1
  · have : (w1.setCell ⟨bb, 1, none⟩ vi').ownsRow (bb + 1) tR 1 vi' ((es ++ fs).length + 1) ((es ++ fs).map IntsV.val ++ [f.val]) := ownsRow_setCell_other hown hbbi' _
    rw [← List.append_assoc, List.length_append, List.map_append]
    exact this
  · exact ownsRow_keep h.marks hks (fun b e => ⟨hmi b e, fun e' => by subst e'; exact hbbm e⟩)
  · exact ownsRow_keep h.cur hks (fun b e => ⟨hvi b e, fun e' => by subst e'; exact hbbv e⟩)
  · exact ints_keep (h.olde e he) (fun b hb hl => hks.block b hl ⟨(h.off e (List.mem_append.2 (.inl he)) b hb).2.2.1, (h.off e (List.mem_append.2 (.inl he)) b hb).1⟩)
  · rcases List.mem_append.1 hg with hg | hg
    · exact ⟨ints_keep (h.newe g hg).1 (fun b hb hl => hks.block b hl ⟨(h.off g (List.mem_append.2 (.inr hg)) b hb).2.2.1, (h.off g (List.mem_append.2 (.inr hg)) b hb).1⟩), (h.newe g hg).2⟩
    · rw [List.mem_singleton] at hg
      subst hg
      refine ⟨ints_keep hfa (fun b hb hl => hks.block b hl ⟨hvi b ((hfb b).1 hb), fun e => hbbv (e ▸ (hfb b).1 hb)⟩), fun x hx => ?_, fun b hb _ => ⟨hf0 b hb, by rw [hfx, List.length_replicate]; exact Nat.le_refl _⟩⟩
      rw [hfx] at hx
      exact List.eq_of_mem_replicate hx
  · rw [← List.append_assoc] at he
    rcases List.mem_append.1 he with he | he
    · have h1 := h.off e he b hb
      exact ⟨h1.1, h1.2.1, fun e' => h1.2.2.1 (hnew b h1.2.2.2 e'), by have := h1.2.2.2; rw [World.size_setCell]; omega⟩
    · rw [List.mem_singleton] at he
      subst he
      have hv := (hfb b).1 hb
      have hl := hfl b hb
      exact ⟨fun e => hbbv (e ▸ hv), (h.voff b hv).2.1, fun e' => hvi b hv (hnew b hl e'), by rw [World.size_setCell]; omega⟩
  · refine (Kept.chg h.kept hk (fun b e => h.chg b (.inr (.inl e)))).trans (Kept.setCell _ _ _ (fun h' => h' (.inl rfl)))
  · rcases hb with hb | hb | hb | hb
    · exact h.chg b (.inl hb)
    · rcases hat with h' | h'
      · rw [h'] at hb; exact h.chg b (.inr (.inl hb))
      · rw [h'] at hb; cases hb
        exact .inr (by have := h.kept.size; omega)
    · exact h.chg b (.inr (.inr (.inl hb)))
    · exact h.chg b (.inr (.inr (.inr hb)))
  · rcases List.mem_append.1 hg with hg | hg
    · exact h.fnew g hg b hb
    · rw [List.mem_singleton] at hg
      subst hg
      exact h.chg b (.inr (.inr (.inr ((hfb b).1 hb))))

/-- The mark goes into the marks. -/
theorem KQ.pushM (h : KQ W0 wr bb tB tR tI n es fs Ms m len v vi vm vi0 vm0 l) (hRI : tR ≠ tI) {w1 : World} {vm' : Value} (hown : w1.ownsRow (bb + 1) tI 1 vm' (Ms ++ [m]).length ((Ms ++ [m]).map (Value.int .i64))) (hk : Kept (fun b => vm.ownBlock ≠ some b) wr w1) (hat : vm'.ownBlock = vm.ownBlock ∨ vm'.ownBlock = some (wr.heap.size + 1)) :
    KQ W0 (w1.setCell ⟨bb, 2, none⟩ vm') bb tB tR tI n es fs (Ms ++ [m]) m len v vi vm' vi0 vm0 l := by
  have hsz := hk.size
  have hbbi : vi.ownBlock ≠ some bb := fun e => by have := (ownsRow_lt h.ints e).1; omega
  have hbbm : vm.ownBlock ≠ some bb := fun e => by have := (ownsRow_lt h.marks e).1; omega
  have hbbm' : vm'.ownBlock ≠ some bb := fun e => by have := (ownsRow_lt hown e).1; omega
  have hbbv : v.ownBlock ≠ some bb := fun e => (h.voff bb e).1 rfl
  have hks : Kept (fun b => vm.ownBlock ≠ some b ∧ b ≠ bb) wr (w1.setCell ⟨bb, 2, none⟩ vm') := (hk.mono fun b _ h => h.1).trans (Kept.setCell _ _ _ (fun h => h.2 rfl))
  have hnew : ∀ b, b < wr.heap.size → vm'.ownBlock = some b → vm.ownBlock = some b := fun b hb e => by
    rcases hat with h' | h'
    · rw [← h']; exact e
    · rw [h'] at e; cases e; omega
  have him : ∀ b, vi.ownBlock = some b → vm.ownBlock ≠ some b := fun b e => own_two hRI h.ints h.marks e
  refine ⟨?_, ?_, ?_, ?_, fun e he => ?_, fun g hg => ?_, fun e he b hb => ?_, fun b hb => ?_, ?_, fun b hb => ?_, h.fnew, h.bbl⟩
  · have h1 := (h.cell.of (hk.block bb h.cell.lt hbbm)).set 2 vm'
    exact h1
  · exact ownsRow_keep h.ints hks (fun b e => ⟨him b e, fun e' => by subst e'; exact hbbi e⟩)
  · exact ownsRow_setCell_other hown hbbm' _
  · exact ownsRow_keep h.cur hks (fun b e => ⟨(h.voff b e).2.1, fun e' => by subst e'; exact hbbv e⟩)
  · exact ints_keep (h.olde e he) (fun b hb hl => hks.block b hl ⟨(h.off e (List.mem_append.2 (.inl he)) b hb).2.1, (h.off e (List.mem_append.2 (.inl he)) b hb).1⟩)
  · exact ⟨ints_keep (h.newe g hg).1 (fun b hb hl => hks.block b hl ⟨(h.off g (List.mem_append.2 (.inr hg)) b hb).2.1, (h.off g (List.mem_append.2 (.inr hg)) b hb).1⟩), (h.newe g hg).2⟩
  · have h1 := h.off e he b hb
    exact ⟨h1.1, fun e' => h1.2.1 (hnew b h1.2.2.2 e'), h1.2.2.1, by have := h1.2.2.2; rw [World.size_setCell]; omega⟩
  · have h1 := h.voff b hb
    exact ⟨h1.1, fun e' => h1.2.1 (hnew b (ownsRow_lt h.cur hb).2 e'), h1.2.2⟩
  · refine (Kept.chg h.kept hk (fun b e => h.chg b (.inr (.inr (.inl e))))).trans (Kept.setCell _ _ _ (fun h' => h' (.inl rfl)))
  · rcases hb with hb | hb | hb | hb
    · exact h.chg b (.inl hb)
    · exact h.chg b (.inr (.inl hb))
    · rcases hat with h' | h'
      · rw [h'] at hb; exact h.chg b (.inr (.inr (.inl hb)))
      · rw [h'] at hb; cases hb
        exact .inr (by have := h.kept.size; omega)
    · exact h.chg b (.inr (.inr (.inr hb)))

/-- The list grows by the mark. -/
theorem KQ.pushL (h : KQ W0 wr bb tB tR tI n es fs Ms m len v vi vm vi0 vm0 l) (hRI : tR ≠ tI) {w1 : World} {v' : Value} (hown : w1.ownsRow 0 tI 1 v' (List.replicate len m ++ [m]).length ((List.replicate len m ++ [m]).map (Value.int .i64))) (hk : Kept (fun b => v.ownBlock ≠ some b) wr w1) (hat : v'.ownBlock = v.ownBlock ∨ (v'.ownBlock = some (wr.heap.size + 1) ∧ Kept (fun _ => True) wr w1)) :
    KQ W0 w1 bb tB tR tI n es fs Ms m (len + 1) v' vi vm vi0 vm0 l := by
  have hsz := hk.size
  have e1 : List.replicate len m ++ [m] = List.replicate (len + 1) m := by rw [List.replicate_succ']
  rw [e1, List.length_replicate] at hown
  have hbbv : v.ownBlock ≠ some bb := fun e => (h.voff bb e).1 rfl
  have hiv : ∀ b, vi.ownBlock = some b → v.ownBlock ≠ some b := fun b e => own_two hRI h.ints h.cur e
  have hmv : ∀ b, vm.ownBlock = some b → v.ownBlock ≠ some b := fun b e e' => (h.voff b e').2.1 e
  refine ⟨h.cell.of (hk.block bb h.cell.lt hbbv), ownsRow_keep h.ints hk hiv, ownsRow_keep h.marks hk hmv, hown, fun e he => ?_, fun g hg => ?_, fun e he b hb => ?_, fun b hb => ?_, ?_, fun b hb => ?_, h.fnew, h.bbl⟩
  · exact ints_keep (h.olde e he) (fun b hb hl => hk.block b hl (fun e' => (h.voff b e').2.2 e he hb))
  · obtain ⟨ha, hx, hv⟩ := h.newe g hg
    refine ⟨?_, hx, fun b hb hb' => ?_⟩
    · rcases hat with h' | ⟨_, hkt⟩
      · by_cases hgv : ∃ b, rowEl.blk g = some b ∧ v.ownBlock = some b
        · obtain ⟨b, hb1, hb2⟩ := hgv
          obtain ⟨had, hlen⟩ := hv b hb1 hb2
          rw [← h'] at hb2
          rcases own_news hown with ⟨h1, _⟩ | ⟨g', c, h1, _, _, h4⟩
          · rw [h1] at hb2; cases hb2
          · rw [h1] at hb2
            have hbg : g' = b := by simpa [Value.ownBlock] using hb2
            subst hbg
            refine ⟨ha.1, fun i hi => ⟨g', 0, had, ?_⟩⟩
            have h5 := h4 i (.int .i64 m) (by rw [List.getElem?_map, List.getElem?_replicate, if_pos (by omega)]; rfl)
            rw [addr_add] at h5
            rw [h5]
            have e2 : g.xs.getD i 0 = m := hx _ (getD_memR hi)
            show some (Value.int .i64 m) = some (Value.int .i64 (g.xs.getD i 0))
            rw [e2]
        · exact ints_keep ha (fun b hb hl => hk.block b hl (fun e' => hgv ⟨b, hb, e'⟩))
      · exact ints_keep ha (fun b hb hl => hkt.block b hl trivial)
    · rcases hat with h' | ⟨h', _⟩
      · rw [h'] at hb'
        exact ⟨(hv b hb hb').1, by have := (hv b hb hb').2; omega⟩
      · rw [h'] at hb'; cases hb'
        have := (h.off g (List.mem_append.2 (.inr hg)) _ hb).2.2.2
        omega
  · have h1 := h.off e he b hb
    exact ⟨h1.1, h1.2.1, h1.2.2.1, by have := h1.2.2.2; omega⟩
  · rcases hat with h' | ⟨h', _⟩
    · rw [h'] at hb; exact h.voff b hb
    · rw [h'] at hb; cases hb
      refine ⟨by have := h.cell.lt; omega, fun e => by have := (ownsRow_lt h.marks e).2; omega, fun e he hb => by have := (h.off e (List.mem_append.2 (.inl he)) _ hb).2.2.2; omega⟩
  · exact Kept.chg h.kept hk (fun b e => h.chg b (.inr (.inr (.inr e))))
  · rcases hb with hb | hb | hb | hb
    · exact h.chg b (.inl hb)
    · exact h.chg b (.inr (.inl hb))
    · exact h.chg b (.inr (.inr (.inl hb)))
    · rcases hat with h' | ⟨h', _⟩
      · rw [h'] at hb; exact h.chg b (.inr (.inr (.inr hb)))
      · rw [h'] at hb; cases hb
        exact .inr (by have := h.kept.size; omega)

/-- At the end: a book. -/
theorem KQ.book (h : KQ W0 wr bb tB tR tI n es fs Ms m len v vi vm vi0 vm0 l) {ms : List Int} (hM : Ms = ms ++ List.replicate fs.length m) (hl : es.length = ms.length) (hold : ∀ k, k < es.length → ∀ x ∈ (es.getD k iz).xs, x = ms.getD k 0) :
    BookAt wr bb tB tR tI n (es ++ fs) Ms vi vm := by
  refine ⟨h.cell, h.ints, h.marks, by rw [hM]; simp [hl], fun k hk => ?_, h.off⟩
  rw [List.length_append] at hk
  by_cases hlt : k < es.length
  · have e1 : (es ++ fs).getD k iz = es.getD k iz := by simp only [List.getD]; rw [List.getElem?_append_left hlt]
    have e2 : Ms.getD k 0 = ms.getD k 0 := by rw [hM]; simp only [List.getD]; rw [List.getElem?_append_left (by omega)]
    rw [e1, e2]
    exact ⟨h.olde _ (getD_memR hlt), hold k hlt⟩
  · have hk2 : k - es.length < fs.length := by omega
    have e1 : (es ++ fs).getD k iz = fs.getD (k - es.length) iz := by simp only [List.getD]; rw [List.getElem?_append_right (by omega)]
    have e2 : Ms.getD k 0 = m := by
      rw [hM]
      simp only [List.getD]
      rw [List.getElem?_append_right (by omega), List.getElem?_replicate, if_pos (by omega)]
      rfl
    rw [e1, e2]
    have h1 := h.newe _ (getD_memR (d := iz) hk2)
    exact ⟨h1.1, h1.2.1⟩

end

end Go.Scout

namespace Go.Proofs.YtlpbelhfpoilpaaGreat
open Go.RowKit Go.Scout

/-- A slice of numbers more, in a list of such. -/
theorem push_slice (W : World) (base : Nat) (v : Value) (xs : List Value) (hown : W.ownsRow base 23 1 v xs.length xs) (hl : xs.length ≤ 1000000) (hb : base ≤ W.heap.size) (a : Option Addr) (m c : Nat) (ty : TypeId) :
    ∃ v' w', (Builtin.append_ #[29, 29] ty #[v, .slice (some ⟨W.heap.size, 0, none⟩) 1 1]).run Tryz.prog (W.alloc (.cells #[.slice a m c] 23)) = .ok v' w' ∧
      w'.ownsRow base 23 1 v' (xs.length + 1) (xs ++ [.slice a m c]) ∧ Kept (fun b => v.ownBlock ≠ some b) W w' ∧ (∃ a m c, v' = .slice a m c) ∧ (v'.ownBlock = v.ownBlock ∨ v'.ownBlock = some (W.heap.size + 1)) := by
  obtain ⟨i0, hi, hz0, hz1, hz2⟩ := info_parts Tryz.infoInts
  obtain ⟨v', w', hr, ho, hg, _, hat⟩ := run_append_own_at (P := Tryz.prog) (W.alloc (.cells #[.slice a m c] 23)) base 29 ty 23 i0 (.slice none 0 0) 1 24 Tryz.underlying29 hi hz0 hz1 hz2 rfl (by decide) v xs.length xs (hown.alloc _) ⟨W.heap.size, 0, none⟩ 1 1 [.slice a m c] rfl
    (World.news_of_block (cs := #[.slice a m c]) (t := 23) (fr := (0, 0)) (heap_alloc_new W _)) (fun u hu => by rw [List.mem_singleton] at hu; rw [hu]; rfl) (by unfold maxLen; omega) (by omega) (by rw [World.size_alloc]; omega)
  exact ⟨v', w', hr, ho, (Kept.alloc _ _).trans (Kept.grown hg (fun r e hr => hr e)), ownsRow_slice ho, by rw [World.size_alloc] at hat; exact hat⟩

set_option maxRecDepth 20000 in
set_option maxHeartbeats 16000000 in
theorem keepB_any (bb n : Nat) (es : List IntsV) (ms : List Int) (vi vm : Value) (l : IntsV) (W : World) (hB : BookAt W bb 32 23 3 n es ms vi vm) (hl : (ownEl 3).At l W)
    (hoff : ∀ b, rowEl.blk l = some b → b ≠ bb ∧ vm.ownBlock ≠ some b ∧ ∀ e ∈ es, rowEl.blk e ≠ some b) (hn : n ≤ 100000) (hes : es.length ≤ 900000) (hll : l.xs.length ≤ 1000) :
    Calls Tryz.prog 33 #[.pointer (some ⟨bb, 0, none⟩), l.val] W fun e W' => e = .returned (.tuple #[]) ∧ ∃ es' ms' vi' vm', BookAt W' bb 32 23 3 (n + 1) es' ms' vi' vm' ∧ es'.length = es.length + 4 ∧ Kept (fun b => ¬ Chg bb vi vm l b) W W' ∧
      ∀ b, BookAt.own bb es' vi' vm' b → BookAt.own bb es vi vm b ∨ Chg bb vi vm l b ∨ W.heap.size ≤ b := by
  obtain ⟨W1, hW1⟩ : ∃ W1, W1 = W.setCell ⟨bb, 0, none⟩ (.int .i64 ((n + 1 : Nat) : Int)) := ⟨_, rfl⟩
  have hbl := hB.cell.lt
  have hlt : ∀ b, rowEl.blk l = some b → b < W.heap.size := fun b hb => rowEl.inn hl.1 hb
  obtain ⟨m, hm⟩ : ∃ m : Int, m = 77777 + ((n + 1 : Nat) : Int) := ⟨_, rfl⟩
  have hbk := ownBlk_val l 3 hl
  have hk1 : Kept (fun b => b ≠ bb) W W1 := by rw [hW1]; exact Kept.setCell _ _ _ (fun h => h rfl)
  have hl1 : W1.ownsRow 0 3 1 l.val l.xs.length (l.xs.map (Value.int .i64)) := ownsRow_keep hl.2 hk1 (fun b e => (hoff b ((hbk b).2 e)).1)
  have hbbi : vi.ownBlock ≠ some bb := fun e => by have := (ownsRow_lt hB.ints e).1; omega
  have hbbm : vm.ownBlock ≠ some bb := fun e => by have := (ownsRow_lt hB.marks e).1; omega
  -- behind the first loop
  have HST : Hid (∀ W2 : World, Kept (fun b => l.val.ownBlock ≠ some b) W1 W2 → W2.ownsRow 0 3 1 l.val l.xs.length ((List.replicate l.xs.length m).map (Value.int .i64)) → KQ W W2 bb 32 23 3 (n + 1) es [] ms m l.xs.length l.val vi vm vi vm l) := by
    intro W2 hk2 ho2
    have hks : Kept (fun b => b ≠ bb ∧ l.val.ownBlock ≠ some b) W W2 := (hk1.mono fun b _ h => h.1).trans (hk2.mono fun b _ h => h.2)
    have hlv : ∀ b, l.val.ownBlock = some b → b ≠ bb ∧ vm.ownBlock ≠ some b ∧ ∀ e ∈ es, rowEl.blk e ≠ some b := fun b e => hoff b ((hbk b).2 e)
    refine ⟨?_, ?_, ?_, ho2, fun e he => ?_, fun f hf => (by cases hf), fun e he b hb => ?_, hlv, ?_, fun b hb => ?_, fun f hf => (by cases hf), hbl⟩
    · have h1 := hB.cell.set 0 (.int .i64 ((n + 1 : Nat) : Int))
      rw [← hW1] at h1
      exact h1.of (hk2.block bb h1.lt (fun e => (hlv bb e).1 rfl))
    · rw [List.append_nil]
      exact ownsRow_keep hB.ints hks (fun b e => ⟨fun e' => by subst e'; exact hbbi e, own_two Tryz.ne_types hB.ints hl.2 e⟩)
    · exact ownsRow_keep hB.marks hks (fun b e => ⟨fun e' => by subst e'; exact hbbm e, fun e' => (hlv b e').2.1 e⟩)
    · obtain ⟨k, hk, rfl⟩ := List.getElem_of_mem he
      have h2 := (hB.ent k hk).1
      have e1 : es.getD k iz = es[k] := by simp [List.getD, hk]
      rw [e1] at h2
      exact ints_keep h2 (fun b hb hl' => hks.block b hl' ⟨(hB.off _ he b hb).1, fun e' => (hlv b e').2.2 _ he hb⟩)
    · rw [List.append_nil] at he
      have h1 := hB.off e he b hb
      exact ⟨h1.1, h1.2.1, h1.2.2.1, Nat.lt_of_lt_of_le h1.2.2.2 hks.size⟩
    · exact hks.mono fun b _ h => ⟨fun e => h (.inl e), fun e => h (.inr (.inr (.inr ((hbk b).2 e))))⟩
    · rcases hb with hb | hb | hb | hb
      · exact .inl (.inl hb)
      · exact .inl (.inr (.inl hb))
      · exact .inl (.inr (.inr (.inl hb)))
      · exact .inl (.inr (.inr (.inr ((hbk b).2 hb))))
  have HFI : Hid (∀ (W2 : World) (fs : List IntsV) (v' vi' vm' : Value) (len : Nat), fs.length = 4 → KQ W W2 bb 32 23 3 (n + 1) es fs (ms ++ List.replicate 4 m) m len v' vi' vm' vi vm l → ∃ es' ms' vi' vm', BookAt W2 bb 32 23 3 (n + 1) es' ms' vi' vm' ∧ es'.length = es.length + 4 ∧ Kept (fun b => ¬ Chg bb vi vm l b) W W2 ∧
      ∀ b, BookAt.own bb es' vi' vm' b → BookAt.own bb es vi vm b ∨ Chg bb vi vm l b ∨ W.heap.size ≤ b) := by
    intro W2 fs v' vi' vm' len hf h
    refine ⟨es ++ fs, ms ++ List.replicate 4 m, vi', vm', h.book (by rw [hf]) hB.len (fun k hk => (hB.ent k hk).2), by rw [List.length_append, hf], h.kept, fun b hb => ?_⟩
    rcases hb with hb | hb | hb | ⟨e, he, hb⟩
    · exact .inl (.inl hb)
    · exact .inr (h.chg b (.inr (.inl hb)))
    · exact .inr (h.chg b (.inr (.inr (.inl hb))))
    · rcases List.mem_append.1 he with he | he
      · exact .inl (.inr (.inr (.inr ⟨e, he, hb⟩)))
      · exact .inr (h.fnew e he b hb)
  have c0 : W.cell? ⟨bb, 0, none⟩ = some (.int .i64 n) := hB.cell.cell 0
  have z0 := hB.cell.frozen 0
  have d0 : W1.cell? ⟨bb, 0, none⟩ = some (.int .i64 ((n : Int) + 1)) := by
    have h1 := hB.cell.set 0 (.int .i64 ((n + 1 : Nat) : Int))
    rw [← hW1] at h1
    exact h1.cell 0
  have HL1 : Hid _ := hl1
  have HW1 : Hid (W.setCell ⟨bb, 0, none⟩ (.int .i64 ((n : Int) + 1)) = W1) := hW1.symm
  have hml : es.length = ms.length := hB.len
  have hm' : (77777 : Int) + ((n : Int) + 1) = m := by rw [hm]; rfl
  have hmw : wrap64 (77777 + ((n : Int) + 1)) = m := by rw [hm']; unfold wrap64; omega
  clear hB hl hoff hlt hbk hk1 hl1 hbbi hbbm hbl hW1 hm
  obtain ⟨lad, lcap, lxs⟩ := l
  unfold IntsV.val at *
  simp only at *
  go_enter Tryz.func33, Tryz.ntmps33
  go_upto_region 1 with fail
  rw [HW1.out]
  clear HW1 c0 z0
  go_wp2
  clear d0
  have hL := HL1.out
  go_loopw [5] (fun iv wr => ∃ i : Nat, i ≤ lxs.length ∧ iv = .int .i64 i ∧ Hid (wr.ownsRow 0 3 1 (.slice lad lxs.length lcap) lxs.length ((List.replicate i m ++ lxs.drop i).map (Value.int .i64))) ∧ Hid (Kept (fun b => (Value.slice lad lxs.length lcap).ownBlock ≠ some b) W1 wr)) (fun iv _ => lxs.length - (intOf iv).toNat)
  case atStart => exact ⟨0, Nat.zero_le _, rfl, hL, Kept.refl _ _⟩
  case round =>
    clear hL HL1
    obtain ⟨i, hil, rfl, HO, HK⟩ := hrel
    by_cases hit : i < lxs.length
    · obtain ⟨g, hg, hgl⟩ : ∃ g, lad = some ⟨g, 0, none⟩ ∧ g < wr.heap.size := by
        rcases own_news HO.out with ⟨_, h2⟩ | ⟨g, c, h1, _, h3, _⟩
        · have := congrArg List.length h2
          rw [List.length_map, List.length_append, List.length_replicate, List.length_drop] at this
          simp at this
          omega
        · injection h1 with h1
          exact ⟨g, h1, h3⟩
      subst hg
      have hset := own_setCell (u := .int .i64 m) HO.out hit
      have e1 : ((List.replicate i m ++ lxs.drop i).map (Value.int .i64)).set i (.int .i64 m) = (List.replicate (i + 1) m ++ lxs.drop (i + 1)).map (Value.int .i64) := by
        rw [← List.map_set, List.set_append_right _ _ (by simp), List.length_replicate, Nat.sub_self, List.drop_eq_getElem_cons hit, List.set_cons_zero, List.replicate_succ', List.append_assoc]
        rfl
      rw [e1] at hset
      have hcell : wr.cell? ⟨g, i, none⟩ = some (.int .i64 lxs[i]) := by
        rcases own_news HO.out with ⟨h1, _⟩ | ⟨g', c, h1, _, _, h4⟩
        · cases h1
        · cases h1
          have h5 := h4 i (.int .i64 lxs[i]) (by rw [List.getElem?_map, List.getElem?_append_right (by simp), List.length_replicate, Nat.sub_self, List.getElem?_drop, Nat.add_zero, List.getElem?_eq_getElem hit]; rfl)
          rw [addr_add, Nat.zero_add] at h5
          exact h5
      have hfz : wr.frozen? ⟨g, i, none⟩ = false := by
        obtain ⟨cur, hc⟩ := own_cells HO.out (b := g) rfl
        have hG : GB wr g 3 cur := hc
        exact hG.frozen i
      have hks : Kept (fun b => (Value.slice (some ⟨g, 0, none⟩) lxs.length lcap).ownBlock ≠ some b) W1 (wr.setCell ⟨g, i, none⟩ (.int .i64 m)) := HK.out.trans (Kept.setCell _ _ _ (fun h => h rfl))
      have HS : Hid _ := hset
      have HKS : Hid _ := hks
      clear hset hks e1 HO HK
      generalize lxs[i] = oldv at *
      go_wp2
      go_roundw
      case rel => exact ⟨i + 1, by omega, by go_num, HS.out, HKS.out⟩
      case measure => simp [intOf]; omega
    · obtain rfl : i = lxs.length := by omega
      have ho := HO.out
      rw [List.drop_length, List.append_nil] at ho
      have hq := HST.out wr HK.out ho
      have HQ : Hid _ := hq
      clear hq ho HO HK HST
      go_wp2
      go_loopw [1, 6] (fun v kv wr => ∃ (k : Nat) (fs : List IntsV) (vi' vm' : Value), k ≤ 4 ∧ kv = .int .i64 k ∧ fs.length = k ∧ Hid (KQ W wr bb 32 23 3 (n + 1) es fs (ms ++ List.replicate k m) m (lxs.length + k) v vi' vm' vi vm ⟨lad, lcap, lxs⟩)) (fun _ kv _ => 4 - (intOf kv).toNat)
      case atStart => exact ⟨0, [], vi, vm, Nat.zero_le _, rfl, rfl, by rw [List.replicate_zero, List.append_nil]; exact HQ.out⟩
      case round =>
        clear HQ
        obtain ⟨k, fs, vi', vm', hk4, rfl, hfl, HQ⟩ := hrel
        by_cases hkt : k < 4
        · have h := HQ.out
          obtain ⟨f, hfv, hfx, hfo, -⟩ := ownEl_of_own h.cur (by rw [List.length_replicate]; omega)
          obtain ⟨ia, im, ic, rfl⟩ := ownsRow_slice h.ints
          obtain ⟨ma, mm, mc, rfl⟩ := ownsRow_slice h.marks
          have hbz := h.cell.lt
          have hfl2 : ((es ++ fs).map IntsV.val).length = (es ++ fs).length := by rw [List.length_map]
          have hel : (es ++ fs).length ≤ 1000000 := by rw [List.length_append]; omega
          have hi0 := h.ints
          rw [← hfl2] at hi0
          obtain ⟨v1, w1, hr1, ho1, hk1, ⟨pa, pm, pc, rfl⟩, hat1⟩ := push_slice wr (bb + 1) (.slice ia im ic) ((es ++ fs).map IntsV.val) hi0 (by rw [hfl2]; exact hel) (by omega) f.ad f.xs.length f.cap 29
          rw [hfl2] at ho1
          have hbi := ownBlk_val f 3 hfo
          rw [← hfv] at hbi
          have q1 := h.pushI Tryz.ne_types hfv.symm hfx hfo.1.1 hbi (fun b hb => by
            rcases hfo.2.2 with ⟨h1, _⟩ | ⟨g, c, cur, h1, _⟩
            · have h2 : f.ad = none := by unfold IntsV.val at h1; injection h1
              have : Option.map (fun a : Addr => a.block) f.ad = some b := hb
              rw [h2] at this; cases this
            · have h2 : f.ad = some ⟨g, 0, none⟩ := by unfold IntsV.val at h1; injection h1
              have : Option.map (fun a : Addr => a.block) f.ad = some b := hb
              rw [h2] at this
              cases this
              exact h2) ho1 hk1 hat1
          have c1' : w1.cell? ⟨bb, 1, none⟩ = some (.slice ia im ic) := (World.cell?_of_block (a := ⟨bb, 1, none⟩) (hk1.block bb hbz (fun e => by have := (ownsRow_lt h.ints e).1; omega))).trans (h.cell.cell 1)
          have z1' : w1.frozen? ⟨bb, 1, none⟩ = false := (World.frozen?_of_block (a := ⟨bb, 1, none⟩) (hk1.block bb hbz (fun e => by have := (ownsRow_lt h.ints e).1; omega))).trans (h.cell.frozen 1)
          have c1 : wr.cell? ⟨bb, 1, none⟩ = some (.slice ia im ic) := h.cell.cell 1
          obtain ⟨w1s, hw1s⟩ : ∃ x, x = w1.setCell ⟨bb, 1, none⟩ (.slice pa pm pc) := ⟨_, rfl⟩
          rw [← hw1s] at q1
          -- the mark
          have hMl : (ms ++ List.replicate k m).length ≤ 1000000 := by rw [List.length_append, List.length_replicate]; omega
          obtain ⟨v2, w2, hr2, ho2, hk2, ⟨ra, rm, rc, rfl⟩, hat2⟩ := push_int w1s (bb + 1) (.slice ma mm mc) (ms ++ List.replicate k m) q1.marks hMl (by have := q1.cell.lt; omega) m 23
          have q2 := q1.pushM Tryz.ne_types ho2 hk2 hat2
          have c2 : w1s.cell? ⟨bb, 2, none⟩ = some (.slice ma mm mc) := q1.cell.cell 2
          have hbm2 : (Value.slice ma mm mc).ownBlock ≠ some bb := fun e => by have := (ownsRow_lt q1.marks e).1; omega
          have c2' : w2.cell? ⟨bb, 2, none⟩ = some (.slice ma mm mc) := (World.cell?_of_block (a := ⟨bb, 2, none⟩) (hk2.block bb q1.cell.lt hbm2)).trans c2
          have z2' : w2.frozen? ⟨bb, 2, none⟩ = false := (World.frozen?_of_block (a := ⟨bb, 2, none⟩) (hk2.block bb q1.cell.lt hbm2)).trans (q1.cell.frozen 2)
          obtain ⟨w2s, hw2s⟩ : ∃ x, x = w2.setCell ⟨bb, 2, none⟩ (.slice ra rm rc) := ⟨_, rfl⟩
          rw [← hw2s] at q2
          -- the list
          have hcl : (List.replicate (lxs.length + k) m).length = lxs.length + k := List.length_replicate ..
          have hcu : w2s.ownsRow 0 3 1 f.val (List.replicate (lxs.length + k) m).length ((List.replicate (lxs.length + k) m).map (Value.int .i64)) := by
            rw [hcl, ← hfv]; exact q2.cur
          obtain ⟨v3, w3, hr3, ho3, hk3, ⟨ta, tm, tc, rfl⟩, hat3⟩ := push_mark w2s 0 f.val (List.replicate (lxs.length + k) m) hcu (by rw [hcl]; omega) (Nat.zero_le _) m 23
          rw [← hfv] at hk3 hat3
          have q3 := q2.pushL Tryz.ne_types ho3 hk3 hat3
          have eM : ms ++ List.replicate k m ++ [m] = ms ++ List.replicate (k + 1) m := by rw [List.replicate_succ', List.append_assoc]
          rw [eM] at q3
          have HQ3 : Hid _ := q3
          have HW1 : Hid (w1.setCell ⟨bb, 1, none⟩ (.slice pa pm pc) = w1s) := hw1s.symm
          have HW2 : Hid (w2.setCell ⟨bb, 2, none⟩ (.slice ra rm rc) = w2s) := hw2s.symm
          have hfv' := hfv
          clear h q1 q2 q3 HQ hi0 ho1 hk1 hat1 ho2 hk2 hat2 ho3 hk3 hat3 hcu hcl eM hbi hfo hfx hw1s hw2s hMl hel hfl2 hbm2 hbz HFI
          rw [hfv]
          clear hfv hfv'
          obtain ⟨fad, fcap, fxs⟩ := f
          unfold IntsV.val at *
          simp only at *
          go_upto_region 10 with (first | (at_builtin; refine wpList_append_run rfl (.tmp 38) (.tmp 40) 29 rfl (.slice ia im ic) (.slice (some ⟨wr.heap.size, 0, none⟩) 1 1) (.slice pa pm pc) w1 rfl rfl hr1 ?_))
          rw [HW1.out]
          clear hr1 c1 HW1 c1' z1'
          go_upto_region 11 with (first | (at_builtin; refine wpList_append_run rfl (.tmp 48) (.tmp 50) 23 rfl (.slice ma mm mc) (.slice (some ⟨w1s.heap.size, 0, none⟩) 1 1) (.slice ra rm rc) w2 rfl rfl hr2 ?_))
          rw [HW2.out]
          clear hr2 c2 HW2 c2' z2'
          go_wp2_with (first | (at_builtin; refine wpList_append_run rfl (.tmp 54) (.tmp 56) 23 rfl (.slice fad fxs.length fcap) (.slice (some ⟨w2s.heap.size, 0, none⟩) 1 1) (.slice ta tm tc) w3 rfl rfl hr3 ?_))
          clear hr3
          go_wp2
          go_roundw
          case rel => exact ⟨k + 1, fs ++ [IntsV.mk fad fcap fxs], .slice pa pm pc, .slice ra rm rc, by omega, by go_num, by rw [List.length_append, hfl]; rfl, HQ3.out⟩
          case measure => simp [intOf]; omega
        · obtain rfl : k = 4 := by omega
          have hfin := HFI.out wr fs _ vi' vm' _ hfl HQ.out
          have HF : Hid _ := hfin
          clear hfin HFI HQ
          go_wp2
          go_end0
          exact ⟨rfl, HF.out⟩

end Go.Proofs.YtlpbelhfpoilpaaGreat

