import Derived.Test.YtlpbelhfpoilpaaGreatCBase9RfCRfDRfP
import Derived.Test.YtlpbelhfpoilpaaGreatCLendTbAClauses
set_option linter.all false
namespace Go.Proofs.YtlpbelhfpoilpaaGreat
open Go.RowKit Go.Scout

theorem Tryz.info29 : (Tryz.prog.info? 29).map (fun i => (i.zero, i.size, i.bytes)) = some (some (.slice none 0 0), 1, 24) := by kernel_rfl

structure T0 (w00 w0 w' : World) (G tG tR tI tS : Nat) (c : Array Value) (s1 i1 s2 i2 : Nat) : Prop where
  bel : Below w00.heap.size w00 w'
  oth : ∀ j, j < w0.heap.size → j ≠ G → w'.heap[j]? = w0.heap[j]?
  siz : w0.heap.size < w'.heap.size
  g : GB w' G tG c
  row : GB w' w0.heap.size tR #[.slice (some ⟨s1, 0, none⟩) 1 1, .slice (some ⟨s2, 0, none⟩) 1 1]
  r1 : GB w' s1 tI #[.slice (some ⟨i1, 0, none⟩) 1 1]
  r2 : GB w' s2 tI #[.slice (some ⟨i2, 0, none⟩) 1 1]
  q1 : GB w' i1 tS #[.int .i64 77777]
  q2 : GB w' i2 tS #[.int .i64 77777]

theorem cell4 (y : World) (o1 o2 o3 o4 : Obj) (b i : Nat) (h : b < y.heap.size) : ((((y.alloc o1).alloc o2).alloc o3).alloc o4).cell? ⟨b, i, none⟩ = y.cell? ⟨b, i, none⟩ := by
  have h1 := below_alloc y o1
  have h2 := Below.step h1 (below_alloc _ o2)
  have h3 := Below.step h2 (below_alloc _ o3)
  have h4 := Below.step h3 (below_alloc _ o4)
  exact h4.cell (p := ⟨b, i, none⟩) h
theorem frozen4 (y : World) (o1 o2 o3 o4 : Obj) (b i : Nat) (h : b < y.heap.size) : ((((y.alloc o1).alloc o2).alloc o3).alloc o4).frozen? ⟨b, i, none⟩ = y.frozen? ⟨b, i, none⟩ := by
  have h1 := below_alloc y o1
  have h2 := Below.step h1 (below_alloc _ o2)
  have h3 := Below.step h2 (below_alloc _ o3)
  have h4 := Below.step h3 (below_alloc _ o4)
  exact h4.frozen (p := ⟨b, i, none⟩) h

theorem heap4 (y : World) (o1 o2 o3 o4 : Obj) (b : Nat) (h : b < y.heap.size) : ((((y.alloc o1).alloc o2).alloc o3).alloc o4).heap[b]? = y.heap[b]? := by
  have h1 := below_alloc y o1
  have h2 := Below.step h1 (below_alloc _ o2)
  have h3 := Below.step h2 (below_alloc _ o3)
  have h4 := Below.step h3 (below_alloc _ o4)
  exact h4.block b h
theorem heap4_new (y : World) (o1 o2 o3 o4 : Obj) (n : Nat) (h : n = y.heap.size) : ((((y.alloc o1).alloc o2).alloc o3).alloc o4).heap[n]? = some o1 ∧ ((((y.alloc o1).alloc o2).alloc o3).alloc o4).heap[n + 1]? = some o2 ∧
    ((((y.alloc o1).alloc o2).alloc o3).alloc o4).heap[n + 2]? = some o3 ∧ ((((y.alloc o1).alloc o2).alloc o3).alloc o4).heap[n + 3]? = some o4 := by
  subst h
  refine ⟨?_, ?_, ?_, ?_⟩
  · rw [heap_alloc (by simp only [World.size_alloc]; omega), heap_alloc (by simp only [World.size_alloc]; omega), heap_alloc (by simp only [World.size_alloc]; omega), heap_alloc_new]
  · rw [heap_alloc (by simp only [World.size_alloc]; omega), heap_alloc (by simp only [World.size_alloc]; omega), show y.heap.size + 1 = (y.alloc o1).heap.size by simp, heap_alloc_new]
  · rw [heap_alloc (by simp only [World.size_alloc]; omega), show y.heap.size + 2 = ((y.alloc o1).alloc o2).heap.size by simp, heap_alloc_new]
  · rw [show y.heap.size + 3 = (((y.alloc o1).alloc o2).alloc o3).heap.size by simp, heap_alloc_new]

theorem T0.mk' {w00 w0 wr : World} {G tG tR tI tS : Nat} {c : Array Value} (hG0 : w00.heap.size ≤ G) (hGlt : G < w0.heap.size) (hbr : Below w00.heap.size w00 wr) (hoth : ∀ j, j < w0.heap.size → j ≠ G → wr.heap[j]? = w0.heap[j]?)
    (hsz : w0.heap.size < wr.heap.size) (hg : GB wr G tG c) (hrow : GB wr w0.heap.size tR #[.slice none 0 0, .slice none 0 0]) :
    T0 w00 w0 (((((((wr.setCell ⟨w0.heap.size, 0, none⟩ (.slice (some ⟨wr.heap.size + 1, 0, none⟩) 1 1)).alloc (.cells #[.int .i64 77777] tS)).alloc (.cells #[.slice (some ⟨wr.heap.size, 0, none⟩) 1 1] tI)).alloc (.cells #[.int .i64 77777] tS)).alloc
      (.cells #[.slice (some ⟨wr.heap.size + 1 + 1, 0, none⟩) 1 1] tI)).setCell ⟨w0.heap.size, 1, none⟩ (.slice (some ⟨wr.heap.size + 1 + 1 + 1, 0, none⟩) 1 1)).setCell ⟨G, 9, none⟩ (.slice (some ⟨w0.heap.size, 0, none⟩) 0 2))
      G tG tR tI tS (c.setIfInBounds 9 (.slice (some ⟨w0.heap.size, 0, none⟩) 0 2)) (wr.heap.size + 1) wr.heap.size (wr.heap.size + 3) (wr.heap.size + 2) := by
  have hb0 := hbr.size
  let y1 := wr.setCell ⟨w0.heap.size, 0, none⟩ (.slice (some ⟨wr.heap.size + 1, 0, none⟩) 1 1)
  have hy1 : y1.heap.size = wr.heap.size := by simp [y1]
  let y2 := (((y1.alloc (.cells #[.int .i64 77777] tS)).alloc (.cells #[.slice (some ⟨wr.heap.size, 0, none⟩) 1 1] tI)).alloc (.cells #[.int .i64 77777] tS)).alloc (.cells #[.slice (some ⟨wr.heap.size + 1 + 1, 0, none⟩) 1 1] tI)
  have hy2 : y2.heap.size = wr.heap.size + 4 := by simp [y2, hy1]
  show T0 w00 w0 ((y2.setCell ⟨w0.heap.size, 1, none⟩ (.slice (some ⟨wr.heap.size + 1 + 1 + 1, 0, none⟩) 1 1)).setCell ⟨G, 9, none⟩ (.slice (some ⟨w0.heap.size, 0, none⟩) 0 2)) G tG tR tI tS _ _ _ _ _
  have hold : ∀ j, j < wr.heap.size → y2.heap[j]? = y1.heap[j]? := fun j hj => heap4 y1 _ _ _ _ j (by omega)
  have hnew := heap4_new y1 (.cells #[.int .i64 77777] tS) (.cells #[.slice (some ⟨wr.heap.size, 0, none⟩) 1 1] tI) (.cells #[.int .i64 77777] tS) (.cells #[.slice (some ⟨wr.heap.size + 1 + 1, 0, none⟩) 1 1] tI) wr.heap.size hy1.symm
  have hup : ∀ j, j ≠ G → j ≠ w0.heap.size → ((y2.setCell ⟨w0.heap.size, 1, none⟩ (.slice (some ⟨wr.heap.size + 1 + 1 + 1, 0, none⟩) 1 1)).setCell ⟨G, 9, none⟩ (.slice (some ⟨w0.heap.size, 0, none⟩) 0 2)).heap[j]? = y2.heap[j]? := fun j h1 h2 => by
    rw [heap_setCell h1, heap_setCell h2]
  have hblk : ∀ j, j < wr.heap.size → j ≠ G → j ≠ w0.heap.size → ((y2.setCell ⟨w0.heap.size, 1, none⟩ (.slice (some ⟨wr.heap.size + 1 + 1 + 1, 0, none⟩) 1 1)).setCell ⟨G, 9, none⟩ (.slice (some ⟨w0.heap.size, 0, none⟩) 0 2)).heap[j]? = wr.heap[j]? := fun j hj h1 h2 => by
    rw [hup j h1 h2, hold j hj]
    exact heap_setCell h2
  have hb1 : Below w00.heap.size w00 y1 := hbr.setCell (p := ⟨w0.heap.size, 0, none⟩) (by show w00.heap.size ≤ w0.heap.size; omega) _
  have hb2 : Below w00.heap.size w00 y2 := by
    have a1 := hb1.alloc hb1.size (.cells #[.int .i64 77777] tS)
    have a2 := a1.alloc a1.size (.cells #[.slice (some ⟨wr.heap.size, 0, none⟩) 1 1] tI)
    have a3 := a2.alloc a2.size (.cells #[.int .i64 77777] tS)
    exact a3.alloc a3.size _
  refine ⟨(hb2.setCell (p := ⟨w0.heap.size, 1, none⟩) (by show w00.heap.size ≤ w0.heap.size; omega) _).setCell (p := ⟨G, 9, none⟩) hG0 _, fun j hj hne => ?_, ?_, ?_, ?_, ?_, ?_, ?_, ?_⟩
  · rw [hblk j (by omega) hne (by omega)]
    exact hoth j hj hne
  · simp [hy2]; omega
  · have h1 : GB y2 G tG c := hg.of ((hold G (by omega)).trans (heap_setCell (by show G ≠ w0.heap.size; omega)))
    have h2 : GB (y2.setCell ⟨w0.heap.size, 1, none⟩ (.slice (some ⟨wr.heap.size + 1 + 1 + 1, 0, none⟩) 1 1)) G tG c := h1.of (heap_setCell (by show G ≠ w0.heap.size; omega))
    exact h2.set 9 _
  · have h1 : GB y1 w0.heap.size tR _ := hrow.set 0 (.slice (some ⟨wr.heap.size + 1, 0, none⟩) 1 1)
    have h2 : GB y2 w0.heap.size tR _ := h1.of (hold _ hsz)
    have h3 := h2.set 1 (.slice (some ⟨wr.heap.size + 1 + 1 + 1, 0, none⟩) 1 1)
    exact h3.of (heap_setCell (by show w0.heap.size ≠ G; omega))
  · exact GB.of (w := y2) hnew.2.1 (hup _ (by omega) (by omega))
  · exact GB.of (w := y2) hnew.2.2.2 (hup _ (by omega) (by omega))
  · exact GB.of (w := y2) hnew.1 (hup _ (by omega) (by omega))
  · exact GB.of (w := y2) hnew.2.2.1 (hup _ (by omega) (by omega))

set_option maxRecDepth 20000 in
set_option maxHeartbeats 8000000 in
theorem tables0_any (w00 w : World) (G : Nat) (c0 c1 c2 c3 c4 c5 c6 c7 c8 c9 c10 c11 c12 c13 c14 c15 : Value) (hb : Below w00.heap.size w00 w) (hG0 : w00.heap.size ≤ G)
    (hG : GB w G 43 #[c0, c1, c2, c3, c4, c5, c6, c7, c8, c9, c10, c11, c12, c13, c14, c15]) :
    Calls Tryz.prog 15 #[.pointer (some ⟨G, 0, none⟩), .slice none 0 0] w fun e w' => e = .returned (.tuple #[]) ∧ ∃ s1 i1 s2 i2, T0 w00 w w' G 43 29 23 3
      #[c0, c1, c2, c3, c4, c5, c6, c7, c8, .slice (some ⟨w.heap.size, 0, none⟩) 0 2, c10, c11, c12, c13, .slice (some ⟨w.heap.size, 0, none⟩) 2 2, c15] s1 i1 s2 i2 := by
  have hmk := run_make_row' (P := Tryz.prog) 27 29 (.slice none 0 0) 24 Tryz.underlying27 Tryz.info29 rfl .i64 .i64 2 (by omega) (by omega)
  have hGlt := hG.lt
  have g14 : w.cell? ⟨G, 14, none⟩ = some c14 := hG.cell 14
  have f14 : w.frozen? ⟨G, 14, none⟩ = false := hG.frozen 14
  have hmc : madeCells #[Value.slice none 0 0] 2 = #[Value.slice none 0 0, Value.slice none 0 0] := by rw [madeCells_one]; rfl
  rw [hmc] at hmk
  simp only [Int.cast_ofNat_Int] at hmk
  go_enter Tryz.func15, Tryz.ntmps15
  go_wp2
  go_loopw [5] (fun i wr => i = .int .i64 0 ∧ Below w00.heap.size w00 wr ∧ (∀ j, j < w.heap.size → j ≠ G → wr.heap[j]? = w.heap[j]?) ∧ w.heap.size < wr.heap.size ∧
    GB wr G 43 #[c0, c1, c2, c3, c4, c5, c6, c7, c8, c9, c10, c11, c12, c13, .slice (some ⟨w.heap.size, 0, none⟩) 2 2, c15] ∧ GB wr w.heap.size 29 #[.slice none 0 0, .slice none 0 0]) (fun _ _ => 0)
  case atStart =>
    have hb1 := hb.setCell (p := ⟨G, 14, none⟩) hG0 (.slice (some ⟨w.heap.size, 0, none⟩) 2 2)
    refine ⟨rfl, hb1.alloc hb1.size _, fun j hj hne => ?_, by simp, ?_, ?_⟩
    · rw [heap_alloc (by simpa using hj), heap_setCell hne]
    · exact (hG.set 14 (.slice (some ⟨w.heap.size, 0, none⟩) 2 2)).of (heap_alloc (by simpa using hGlt))
    · have := heap_alloc_new (w.setCell ⟨G, 14, none⟩ (.slice (some ⟨w.heap.size, 0, none⟩) 2 2)) (.cells #[.slice none 0 0, .slice none 0 0] 29)
      rw [World.size_setCell] at this
      exact this
  case round =>
    obtain ⟨rfl, hbr, hoth, hsz, hg, hrow⟩ := hrel
    have h14 : wr.cell? ⟨G, 14, none⟩ = some (.slice (some ⟨w.heap.size, 0, none⟩) 2 2) := hg.cell 14
    have h9 : wr.cell? ⟨G, 9, none⟩ = some c9 := hg.cell 9
    have f9 : wr.frozen? ⟨G, 9, none⟩ = false := hg.frozen 9
    have r0 : wr.cell? ⟨w.heap.size, 0, none⟩ = some (.slice none 0 0) := hrow.cell 0
    have r1 : wr.cell? ⟨w.heap.size, 1, none⟩ = some (.slice none 0 0) := hrow.cell 1
    have e0 : wr.frozen? ⟨w.heap.size, 0, none⟩ = false := hrow.frozen 0
    have e1 : wr.frozen? ⟨w.heap.size, 1, none⟩ = false := hrow.frozen 1
    have hGW : ¬ w.heap.size = G := by omega
    have hGW' : ¬ G = w.heap.size := by omega
    have hGr : G < wr.heap.size := by omega
    clear g14 f14
    have hc4 := cell4
    have hf4 := frozen4
    go_wp2
    go_end0
    refine ⟨rfl, wr.heap.size + 1, wr.heap.size, wr.heap.size + 3, wr.heap.size + 2, ?_⟩
    exact T0.mk' hG0 hGlt hbr hoth hsz hg hrow

end Go.Proofs.YtlpbelhfpoilpaaGreat

namespace Go.Proofs.YtlpbelhfpoilpaaGreat
open Go.RowKit Go.Scout

theorem Tryz.info54 : (Tryz.prog.info? 54).map (fun i => (i.zero, i.size, i.bytes)) = some (some (.agg zt.toArray), 6, 48) := by kernel_rfl
theorem Tryz.info51 : (Tryz.prog.info? 51).map (fun i => (i.zero, i.size, i.bytes)) = some (some (.agg zn.toArray), 7, 88) := by kernel_rfl
theorem makeNodes2 (w : World) :
    (Instr.makeSlice 40 (.int .i64 2) (.int .i64 2)).run Tryz.prog w = .ok (.slice (some ⟨w.heap.size, 0, none⟩) 2 2) (w.alloc (.cells (zn ++ zn).toArray 51)) := by
  obtain ⟨i, hi, hz0, hz1, hz2⟩ := info_parts Tryz.info51
  have := run_make (P := Tryz.prog) w 40 51 i _ Tryz.underlying40 hi hz0 .i64 .i64 2 2 (by omega) (Int.le_refl _) (by rw [hz2]; omega) (by omega)
  rw [hz1] at this
  have e : madeCells (Value.cells (.agg zn.toArray)) ((2 : Int).toNat * 7) = (zn ++ zn).toArray := by
    have h := made_drop zn.toArray 7 0 rfl (by omega)
    have h2 : (madeCells zn.toArray ((0 + 2) * 7)).toList = zn ++ zn := by simpa using h
    apply Array.toList_inj.1
    exact h2
  rw [e] at this
  exact this
theorem Tryz.size54 : (Tryz.prog.info? 54).map (·.size) = some 6 := by kernel_rfl

theorem makeTabs (n : Nat) (h : n * 48 ≤ 140737488351232) (w : World) :
    (Instr.makeSlice 22 (.int .i64 ((n : Int) + 2)) (.int .i64 ((n : Int) + 2))).run Tryz.prog w = .ok (.slice (some ⟨w.heap.size, 0, none⟩) (n + 2) (n + 2)) (w.alloc (.cells (madeCells zt.toArray ((n + 2) * 6)) 54)) := by
  obtain ⟨i, hi, hz0, hz1, hz2⟩ := info_parts Tryz.info54
  have := run_make (P := Tryz.prog) w 22 54 i _ Tryz.underlying22 hi hz0 .i64 .i64 ((n : Int) + 2) ((n : Int) + 2) (by omega) (Int.le_refl _) (by rw [hz2]; omega) (by omega)
  rw [hz1, show ((n : Int) + 2).toNat = n + 2 by omega] at this
  simpa [Value.cells, zt] using this

theorem copyTabs (w y : World) (N : Nat) (ao : Option Addr) (cap : Nat) (ts : List TableD) (h : TablesAt w ao ts) (hb : Below w.heap.size w y) (hN : N = y.heap.size) (ty : TypeId) :
    (Builtin.copy_ #[22, 22] ty #[.slice (some ⟨N, 0, none⟩) (ts.length + 2) (ts.length + 2), .slice ao ts.length cap]).run Tryz.prog (y.alloc (.cells (madeCells zt.toArray ((ts.length + 2) * 6)) 54)) =
      .ok (goInt ts.length) (y.alloc (.cells (tabs1 ts) 54)) := by
  subst hN
  exact run_copy_new (P := Tryz.prog) y 22 54 6 zt.toArray ao ts.length cap (ts.flatMap tabVals) (by omega) rfl (length_flat _ 6 tvals_len ts) (tabs_src (h.below hb)) (tabs_one ts) Tryz.underlying22 Tryz.size54 ty

theorem setCell_tabs1 (y : World) (N : Nat) (ts : List TableD) (t : TypeId) (hN : N = y.heap.size) : (y.alloc (.cells (tabs1 ts) t)).setCell ⟨N, ts.length * 6, none⟩ (.int .i64 77777) = y.alloc (.cells (tabs2 ts) t) := by
  subst hN
  rw [setCell_alloc, tabs1_set]
theorem setCell_tabs2 (y : World) (N : Nat) (ts : List TableD) (t : TypeId) (hN : N = y.heap.size) : (y.alloc (.cells (tabs2 ts) t)).setCell ⟨N, (ts.length + 1) * 6, none⟩ (.int .i64 77777) = y.alloc (.cells (lentTabs ts) t) := by
  subst hN
  rw [setCell_alloc, tabs2_set]
theorem cell_tabs1 (y : World) (N : Nat) (ts : List TableD) (t : TypeId) (hN : N = y.heap.size) : (y.alloc (.cells (tabs1 ts) t)).cell? ⟨N, ts.length * 6, none⟩ = some (.int .i64 0) := by
  subst hN
  rw [World.cell?_alloc_new, tabs1_at]
theorem cell_tabs2 (y : World) (N : Nat) (ts : List TableD) (t : TypeId) (hN : N = y.heap.size) : (y.alloc (.cells (tabs2 ts) t)).cell? ⟨N, (ts.length + 1) * 6, none⟩ = some (.int .i64 0) := by
  subst hN
  rw [World.cell?_alloc_new, tabs2_at]

theorem lend_pre {w W : World} {G tG : Nat} {c : Array Value} {bs : List (Nat × Obj)} (hP : Pre w W G tG c bs) (ao : Option Addr) (cap : Nat) (xs : List Int) (hx : IntsAt w ao xs) (hsz : xs.length * 8 ≤ 140737488351232) :
    Calls Tryz.prog 13 #[.slice ao xs.length cap] W fun e w' => ∃ b, e = .returned (.slice (some ⟨b, 0, none⟩) xs.length (xs.length + 2)) ∧ Pre w w' G tG c ((b, .cells (lentCells xs) 3) :: bs) :=
  (lend_any ao cap xs W (hx.below hP.bel) hsz).mono fun _ _ ⟨he, hw⟩ => ⟨W.heap.size, he, by rw [hw]; exact hP.alloc _⟩

set_option maxRecDepth 20000 in
set_option maxHeartbeats 8000000 in
theorem give0_any (ao : Option Addr) (cap : Nat) (ts : List TableD) (q : QueryV) (w : World) (hx : TablesAt w ao ts) (hq : q.At w) (hsz : ts.length * 48 ≤ 140737488351232)
    (z1 : q.src.xs.length * 8 ≤ 140737488351232) (z2 : q.keys.xs.length * 8 ≤ 140737488351232) (z3 : q.sums.xs.length * 8 ≤ 140737488351232) (z4 : q.sel.xs.length * 8 ≤ 140737488351232) (z5 : q.ord.xs.length * 8 ≤ 140737488351232)
    (z6 : q.wh.length * 24 ≤ 140737488351232) (z7 : ∀ i, i < q.wh.length → (q.wh.getD i lz).cs.length * 40 ≤ 140737488351232) :
    Calls Tryz.prog 6 #[.slice ao ts.length cap, .agg q.cells, .slice none 0 0, .slice none 0 0] w fun e w' => ∃ G bc bf bk bu be bo bw bp bd v A k1 k2 s1 i1 s2 i2, e = .returned (.pointer (some ⟨G, 0, none⟩)) ∧
      Giv w w' G 43 76 74 78 3 54 51 29 23 ts q bc bf bk bu be bo bw bp bd v A k1 k2 s1 i1 s2 i2 := by
  have hmk := makeTabs ts.length hsz
  have hl := hx.1
  obtain ⟨src, wad, wcap, wh, group, keys, sums, sel, ord⟩ := q
  have hsrc : IntsAt w src.ad src.xs := hq.src
  have hkeys : IntsAt w keys.ad keys.xs := hq.keys
  have hsums : IntsAt w sums.ad sums.xs := hq.sums
  have hsel : IntsAt w sel.ad sel.xs := hq.sel
  have hord : IntsAt w ord.ad ord.xs := hq.ord
  have hwh : ClausesAt w wad wh := hq.wh
  clear hq
  simp only at z1 z2 z3 z4 z5 z6 z7
  unfold QueryV.cells IntsV.val
  simp only
  have hcp := fun (o1 o2 : Obj) (ty : TypeId) => copyTabs w ((w.alloc o1).alloc o2) (w.heap.size + 1 + 1) ao cap ts hx (Below.step (below_alloc _ _) (below_alloc _ _)) (by simp) ty
  have hs1 := fun (o1 o2 : Obj) => setCell_tabs1 ((w.alloc o1).alloc o2) (w.heap.size + 1 + 1) ts 54 (by simp)
  have hs2 := fun (o1 o2 : Obj) => setCell_tabs2 ((w.alloc o1).alloc o2) (w.heap.size + 1 + 1) ts 54 (by simp)
  have ha1 := fun (o1 o2 : Obj) => cell_tabs1 ((w.alloc o1).alloc o2) (w.heap.size + 1 + 1) ts 54 (by simp)
  have ha2 := fun (o1 o2 : Obj) => cell_tabs2 ((w.alloc o1).alloc o2) (w.heap.size + 1 + 1) ts 54 (by simp)
  go_enter Tryz.func6, Tryz.ntmps6
  go_wp2_with fail
  refine (lend_pre (Pre.start w _ _ _ _) src.ad src.cap src.xs hsrc z1).mono ?_
  clear hmk hcp hs1 hs2 ha1 ha2 hx
  have hGB : ¬ w.heap.size = w.heap.size + 1 := by omega
  have hGB' : ¬ w.heap.size + 1 = w.heap.size := by omega
  rintro e w1 ⟨b1, rfl, P1⟩
  have p1 := P1.g.cell 1
  have p1' := P1.g.frozen 1
  have p2 := (P1.at (b := w.heap.size) (List.Mem.tail _ (List.Mem.tail _ (List.Mem.head _)))).cell 3
  simp at p1 p2
  go_wp2_with fail
  refine (lend_pre (P1.store 1 _) keys.ad keys.cap keys.xs hkeys z2).mono ?_
  clear P1 p1 p1' p2
  rintro e w2 ⟨b2, rfl, P2⟩
  simp only [List.setIfInBounds_toArray, List.set_cons_succ, List.set_cons_zero] at P2
  have p1 := P2.g.cell 4
  have p1' := P2.g.frozen 4
  have p2 := (P2.at (b := w.heap.size) (List.Mem.tail _ (List.Mem.tail _ (List.Mem.tail _ (List.Mem.head _))))).cell 4
  simp at p1 p2
  go_wp2_with fail
  refine (lend_pre (P2.store 4 _) sums.ad sums.cap sums.xs hsums z3).mono ?_
  clear P2 p1 p1' p2
  rintro e w3 ⟨b3, rfl, P3⟩
  simp only [List.setIfInBounds_toArray, List.set_cons_succ, List.set_cons_zero] at P3
  have p1 := P3.g.cell 5
  have p1' := P3.g.frozen 5
  have p2 := (P3.at (b := w.heap.size) (List.Mem.tail _ (List.Mem.tail _ (List.Mem.tail _ (List.Mem.tail _ (List.Mem.head _)))))).cell 5
  simp at p1 p2
  go_wp2_with fail
  refine (lend_pre (P3.store 5 _) sel.ad sel.cap sel.xs hsel z4).mono ?_
  clear P3 p1 p1' p2
  rintro e w4 ⟨b4, rfl, P4⟩
  simp only [List.setIfInBounds_toArray, List.set_cons_succ, List.set_cons_zero] at P4
  have p1 := P4.g.cell 6
  have p1' := P4.g.frozen 6
  have p2 := (P4.at (b := w.heap.size) (List.Mem.tail _ (List.Mem.tail _ (List.Mem.tail _ (List.Mem.tail _ (List.Mem.tail _ (List.Mem.head _))))))).cell 6
  simp at p1 p2
  go_wp2_with fail
  refine (lend_pre (P4.store 6 _) ord.ad ord.cap ord.xs hord z5).mono ?_
  clear P4 p1 p1' p2
  rintro e w5 ⟨b5, rfl, P5⟩
  simp only [List.setIfInBounds_toArray, List.set_cons_succ, List.set_cons_zero] at P5
  have p1 := P5.g.cell 7
  have p1' := P5.g.frozen 7
  have p2 := (P5.at (b := w.heap.size) (List.Mem.tail _ (List.Mem.tail _ (List.Mem.tail _ (List.Mem.tail _ (List.Mem.tail _ (List.Mem.tail _ (List.Mem.head _)))))))).cell 1
  simp at p1 p2
  go_wp2_with fail
  have P6 := P5.store 7 (.slice (some ⟨b5, 0, none⟩) ord.xs.length (ord.xs.length + 2))
  simp only [List.setIfInBounds_toArray, List.set_cons_succ, List.set_cons_zero] at P6
  clear P5 p1 p1' p2
  generalize w5.setCell ⟨w.heap.size + 1, 7, none⟩ (.slice (some ⟨b5, 0, none⟩) ord.xs.length (ord.xs.length + 2)) = w6 at *
  refine (clauses_any w w6 (w.heap.size + 1) wad wcap wh _ _ _ _ _ _ _ _ _ _ _ _ _ _ _ hwh z6 z7 P6.bel P6.lo P6.g).mono ?_
  rintro e w7 ⟨rfl, v, A, k1, k2, C⟩
  have hG6 := P6.g.lt
  obtain ⟨c7, hc7, P7⟩ : ∃ c, c = _ ∧ Pre w w7 (w.heap.size + 1) 43 c _ := ⟨_, rfl, P6.move C.bel C.oth C.g⟩
  have hmk := makeNodes2
  have hGlt := P7.g.lt
  have hlo := P7.lo
  have p1 : w7.cell? ⟨w.heap.size + 1, 13, none⟩ = some (.slice none 0 0) := by rw [P7.g.cell 13, hc7]; rfl
  have p1' := P7.g.frozen 13
  have hcs : (c7.setIfInBounds 13 (.slice (some ⟨w7.heap.size, 0, none⟩) 2 2))[13]? = some (.slice (some ⟨w7.heap.size, 0, none⟩) 2 2) := by rw [hc7]; rfl
  have hc8 : (c7.setIfInBounds 13 (.slice (some ⟨w7.heap.size, 0, none⟩) 2 2))[8]? = some (.slice none 0 0) := by rw [hc7]; rfl
  have HC7 : Hid _ := hc7
  clear P6 hc7
  go_wp2
  go_loopw [10] (fun i wr => i = .int .i64 0 ∧ Below w.heap.size w wr ∧ (∀ j, j < w7.heap.size → j ≠ w.heap.size + 1 → wr.heap[j]? = w7.heap[j]?) ∧ w7.heap.size < wr.heap.size ∧
    GB wr (w.heap.size + 1) 43 (c7.setIfInBounds 13 (.slice (some ⟨w7.heap.size, 0, none⟩) 2 2)) ∧ GB wr w7.heap.size 51 (zn ++ zn).toArray) (fun _ _ => 0)
  case atStart =>
    have hb1 := P7.bel.setCell (p := ⟨w.heap.size + 1, 13, none⟩) P7.lo (.slice (some ⟨w7.heap.size, 0, none⟩) 2 2)
    refine ⟨rfl, hb1.alloc hb1.size _, fun j hj hne => ?_, by simp, ?_, ?_⟩
    · rw [heap_alloc (by simpa using hj), heap_setCell hne]
    · exact (P7.g.set 13 (.slice (some ⟨w7.heap.size, 0, none⟩) 2 2)).of (heap_alloc (by simpa using hGlt))
    · have := heap_alloc_new (w7.setCell ⟨w.heap.size + 1, 13, none⟩ (.slice (some ⟨w7.heap.size, 0, none⟩) 2 2)) (.cells (zn ++ zn).toArray 51)
      rw [World.size_setCell] at this
      exact this
  case round =>
    obtain ⟨rfl, hbr, hoth, hsz', hg, hrow⟩ := hrel
    have h13 : wr.cell? ⟨w.heap.size + 1, 13, none⟩ = some (.slice (some ⟨w7.heap.size, 0, none⟩) 2 2) := by rw [hg.cell 13, hcs]
    have h8 : wr.cell? ⟨w.heap.size + 1, 8, none⟩ = some (.slice none 0 0) := by rw [hg.cell 8, hc8]
    have f8 := hg.frozen 8
    have r0 : wr.cell? ⟨w7.heap.size, 0, none⟩ = some (.int .i64 0) := by rw [hrow.cell 0]; rfl
    have r7 : wr.cell? ⟨w7.heap.size, 7, none⟩ = some (.int .i64 0) := by rw [hrow.cell 7]; rfl
    have e0 := hrow.frozen 0
    have e7 := hrow.frozen 7
    have hGW : ¬ w7.heap.size = w.heap.size + 1 := by omega
    have hGW' : ¬ w.heap.size + 1 = w7.heap.size := by omega
    clear p1 p1' hcs hc8 hmk
    go_wp2_with fail
    have hb8 : Below w.heap.size w (((wr.setCell ⟨w7.heap.size, 0, none⟩ (.int .i64 77777)).setCell ⟨w7.heap.size, 7, none⟩ (.int .i64 77777)).setCell ⟨w.heap.size + 1, 8, none⟩ (.slice (some ⟨w7.heap.size, 0, none⟩) 0 2)) :=
      ((hbr.setCell (p := ⟨w7.heap.size, 0, none⟩) (by show w.heap.size ≤ w7.heap.size; omega) _).setCell (p := ⟨w7.heap.size, 7, none⟩) (by show w.heap.size ≤ w7.heap.size; omega) _).setCell (p := ⟨w.heap.size + 1, 8, none⟩) hlo _
    have ho8 : ∀ j, j < w7.heap.size → j ≠ w.heap.size + 1 → (((wr.setCell ⟨w7.heap.size, 0, none⟩ (.int .i64 77777)).setCell ⟨w7.heap.size, 7, none⟩ (.int .i64 77777)).setCell ⟨w.heap.size + 1, 8, none⟩ (.slice (some ⟨w7.heap.size, 0, none⟩) 0 2)).heap[j]? = w7.heap[j]? := fun j hj hne => by
      rw [heap_setCell hne, heap_setCell (by show j ≠ w7.heap.size; omega), heap_setCell (by show j ≠ w7.heap.size; omega)]
      exact hoth j hj hne
    have hg8 : GB (((wr.setCell ⟨w7.heap.size, 0, none⟩ (.int .i64 77777)).setCell ⟨w7.heap.size, 7, none⟩ (.int .i64 77777)).setCell ⟨w.heap.size + 1, 8, none⟩ (.slice (some ⟨w7.heap.size, 0, none⟩) 0 2)) (w.heap.size + 1) 43 _ :=
      GB.set (hg.of (by rw [heap_setCell (by show w.heap.size + 1 ≠ w7.heap.size; omega), heap_setCell (by show w.heap.size + 1 ≠ w7.heap.size; omega)])) 8 (.slice (some ⟨w7.heap.size, 0, none⟩) 0 2)
    have hp8 : GB (((wr.setCell ⟨w7.heap.size, 0, none⟩ (.int .i64 77777)).setCell ⟨w7.heap.size, 7, none⟩ (.int .i64 77777)).setCell ⟨w.heap.size + 1, 8, none⟩ (.slice (some ⟨w7.heap.size, 0, none⟩) 0 2)) w7.heap.size 51 (nk ++ nk).toArray :=
      ((hrow.set 0 (.int .i64 77777)).set 7 (.int .i64 77777)).of (heap_setCell (by show w7.heap.size ≠ w.heap.size + 1; omega))
    generalize (((wr.setCell ⟨w7.heap.size, 0, none⟩ (.int .i64 77777)).setCell ⟨w7.heap.size, 7, none⟩ (.int .i64 77777)).setCell ⟨w.heap.size + 1, 8, none⟩ (.slice (some ⟨w7.heap.size, 0, none⟩) 0 2)) = w8 at *
    rw [HC7.out] at hg8
    simp only [List.setIfInBounds_toArray, List.set_cons_succ, List.set_cons_zero] at hg8
    have P8 := P7.move hb8 ho8 hg8
    refine (tables0_any w w8 (w.heap.size + 1) _ _ _ _ _ _ _ _ _ _ _ _ _ _ _ _ hb8 hlo hg8).mono ?_
    rintro e w9 ⟨rfl, s1, i1, s2, i2, T⟩
    have P9 := P8.move T.bel T.oth T.g
    clear h13 h8 f8 r0 r7 e0 e7 hGW hGW' hg8 P8 hg hrow hoth hbr
    have ho9 : ∀ j, j < w7.heap.size → j ≠ w.heap.size + 1 → w9.heap[j]? = w7.heap[j]? := fun j hj hne => (T.oth j (by have := hp8.lt; omega) hne).trans (ho8 j hj hne)
    have HO : Hid _ := ho9
    have HP : Hid _ := hp8
    clear ho8 ho9 hp8
    go_wp2
    go_ret
    have ho9 := HO.out
    refine ⟨w.heap.size + 1, w.heap.size + 2, b1, b2, b3, b4, b5, w6.heap.size, w7.heap.size, w8.heap.size, v, A, k1, k2, s1, i1, s2, i2, rfl, ⟨P9.bel, P9.lo, P9.g, P9.at (List.Mem.tail _ (List.Mem.tail _ (List.Mem.tail _ (List.Mem.tail _ (List.Mem.tail _ (List.Mem.head _)))))), P9.at (List.Mem.tail _ (List.Mem.tail _ (List.Mem.tail _ (List.Mem.tail _ (List.Mem.head _))))), P9.at (List.Mem.tail _ (List.Mem.tail _ (List.Mem.tail _ (List.Mem.head _)))), P9.at (List.Mem.tail _ (List.Mem.tail _ (List.Mem.head _))), P9.at (List.Mem.tail _ (List.Mem.head _)), P9.at (List.Mem.head _), ?_, fun i hi => ?_, ?_, ?_, ?_, ?_, T.row, T.r1, T.r2, T.q1, T.q2⟩⟩
    · exact C.row.of_block (ho9 _ C.siz (by omega))
    · have hA := C.al i hi
      exact hA.2.of (ho9 _ hA.2.lt (by omega))
    · exact ownsRow_move C.own (by have := P7.bel.size; have := hG6; omega) (fun j h1 h2 => ho9 j h2 (by omega))
    · exact C.k1.2.of (ho9 _ C.k1.2.lt (by have := C.k1.1; omega))
    · exact C.k2.2.of (ho9 _ C.k2.2.lt (by have := C.k2.1; omega))
    · have hp8 : GB w8 w7.heap.size 51 (nk ++ nk).toArray := HP.out
      exact hp8.of (T.oth _ hp8.lt (by omega))

end Go.Proofs.YtlpbelhfpoilpaaGreat

namespace Go.Proofs.YtlpbelhfpoilpaaGreat
open Go.RowKit Go.Scout

set_option maxHeartbeats 2000000 in
theorem sameInts_any (ao bo : Option Addr) (cap cap' : Nat) (xs : List Int) (w : World) (hx : IntsAt w ao xs) (hy : IntsAt w bo xs) :
    Calls Tryz.prog 32 #[.slice ao xs.length cap, .slice bo xs.length cap'] w fun e w' => e = .returned (.bool true) ∧ ∃ n, w' = w.drewN n := by
  have hl := hx.1
  have hne : ((xs.length : Int) != xs.length) = false := by simp
  go_enter Tryz.func32, Tryz.ntmps32
  go_wp2
  go_loopw [5] (fun i wr => ∃ k : Nat, k ≤ xs.length ∧ i = .int .i64 k ∧ ∃ n, wr = w.drewN n) (fun i _ => xs.length - (intOf i).toNat)
  case atStart => exact ⟨0, Nat.zero_le _, rfl, 0, rfl⟩
  case round =>
    obtain ⟨k, hk, rfl, n, rfl⟩ := hrel
    by_cases hlt : k < xs.length
    · obtain ⟨b, off, rfl, hc⟩ := hx.get hlt
      obtain ⟨b', off', rfl, hc'⟩ := hy.get hlt
      have h1 := hc k hlt
      have h2 := hc' k hlt
      clear hc hc' hx hy
      generalize xs.getD k 0 = x at *
      have hxx : (x != x) = false := by simp
      go_wp2
      go_quiet (fail)
      go_wp2
      go_roundw
      case rel => exact ⟨k + 1, by omega, by go_num, _, rfl⟩
      case measure => simp [intOf]; omega
    · go_wp2
      go_ret
      exact ⟨rfl, _, rfl⟩

theorem lentAt {w : World} {b : Nat} {xs : List Int} {t : TypeId} (h : GB w b t (lentCells xs)) (hl : xs.length ≤ 1152921504606846976) : IntsAt w (some ⟨b, 0, none⟩) xs := by
  refine ⟨hl, fun i hi => ⟨b, 0, rfl, ?_⟩⟩
  rw [Nat.zero_add, h.cell i]
  unfold lentCells
  rw [List.getElem?_toArray, List.getElem?_append_left (by simpa using hi), List.getElem?_map]
  simp [List.getD, hi]

theorem lent_i0 (xs : List Int) : (lentCells xs)[xs.length]? = some (.int .i64 77777) := by simp [lentCells]
theorem lent_i1 (xs : List Int) : (lentCells xs)[xs.length + 1]? = some (.int .i64 77777) := by simp [lentCells]

set_option maxHeartbeats 2000000 in
theorem lent_true (b : Nat) (bo : Option Addr) (cap' : Nat) (xs : List Int) (w : World) (hG : GB w b 3 (lentCells xs)) (hy : IntsAt w bo xs) :
    Calls Tryz.prog 29 #[.slice (some ⟨b, 0, none⟩) xs.length (xs.length + 2), .slice bo xs.length cap'] w fun e w' => e = .returned (.bool true) ∧ Below w.heap.size w w' := by
  have hl := hy.1
  have hne : ((xs.length : Int) != xs.length) = false := by simp
  have h0 : w.cell? ⟨b, xs.length, none⟩ = some (.int .i64 77777) := by rw [hG.cell, lent_i0]
  have h1 : w.cell? ⟨b, xs.length + 1, none⟩ = some (.int .i64 77777) := by rw [hG.cell, lent_i1]
  have hC := sameInts_any (some ⟨b, 0, none⟩) bo (xs.length + 2) cap' xs w (lentAt hG hl) hy
  go_enter Tryz.func29, Tryz.ntmps29
  go_wp2_with fail
  refine hC.mono ?_
  clear hC
  rintro e w2 ⟨rfl, n, rfl⟩
  go_wp2
  go_ret
  exact ⟨rfl, below_drewN (Below.refl _ _) _⟩

theorem inked_true (b : Nat) (w : World) (hG : GB w b 3 #[.int .i64 77777]) :
    Calls Tryz.prog 55 #[.slice (some ⟨b, 0, none⟩) 1 1] w fun e w' => e = .returned (.bool true) ∧ w' = w := by
  have h0 : w.cell? ⟨b, 0, none⟩ = some (.int .i64 77777) := hG.cell 0
  go_enter Tryz.func55, Tryz.ntmps55
  go_wp2
  go_ret
  exact ⟨rfl, rfl⟩

end Go.Proofs.YtlpbelhfpoilpaaGreat

namespace Go.Scout
open Go.RowKit

theorem tabsAt {w : World} {b t : Nat} {ts : List TableD} (h : GB w b t (lentTabs ts)) (hl : ts.length ≤ 192153584101141162) : TablesAt w (some ⟨b, 0, none⟩) ts := by
  refine ⟨hl, fun i hi => ⟨b, 0, rfl, ?_⟩⟩
  have hc : ∀ j, j < 6 → w.cell? ⟨b, 0 + (i * 6 + j), none⟩ = (tabVals (ts.getD i tz))[j]? := fun j hj => by
    rw [Nat.zero_add, h.cell]
    unfold lentTabs
    rw [List.getElem?_toArray]
    exact flat_at tabVals 6 tvals_len tz ts _ i j hi hj
  exact ⟨hc 0 (by omega), hc 1 (by omega), hc 2 (by omega), hc 3 (by omega), hc 4 (by omega), hc 5 (by omega)⟩

theorem condsAt {w : World} {b t : Nat} {cs : List CondD} (h : GB w b t (lentConds cs)) (hl : cs.length ≤ 230584300921369395) : CondsAt w (some ⟨b, 0, none⟩) cs := by
  refine ⟨hl, fun i hi => ⟨b, 0, rfl, ?_⟩⟩
  have hc : ∀ j, j < 5 → w.cell? ⟨b, 0 + (i * 5 + j), none⟩ = (CondD.vals (cs.getD i cz))[j]? := fun j hj => by
    rw [Nat.zero_add, h.cell]
    unfold lentConds
    rw [List.getElem?_toArray]
    exact flat_at CondD.vals 5 cvals_len cz cs _ i j hi hj
  exact ⟨hc 0 (by omega), hc 1 (by omega), hc 2 (by omega), hc 3 (by omega), hc 4 (by omega)⟩

/-- The clauses as lent: other addresses. -/
def lentLs (ls : List ClauseV) (A : Nat → Nat) : List ClauseV := (List.range ls.length).map fun i => ⟨some ⟨A i, 0, none⟩, (ls.getD i lz).cs.length + 2, (ls.getD i lz).cs⟩
theorem lentLs_len (ls : List ClauseV) (A : Nat → Nat) : (lentLs ls A).length = ls.length := by simp [lentLs]
theorem lentLs_at (ls : List ClauseV) (A : Nat → Nat) {i : Nat} (hi : i < ls.length) : (lentLs ls A).getD i lz = ⟨some ⟨A i, 0, none⟩, (ls.getD i lz).cs.length + 2, (ls.getD i lz).cs⟩ := by
  unfold lentLs
  simp [List.getD, hi]
theorem lentLs_cs (ls : List ClauseV) (A : Nat → Nat) : (lentLs ls A).map ClauseV.cs = ls.map ClauseV.cs := by
  apply List.ext_getElem?
  intro i
  by_cases hi : i < ls.length
  · simp [lentLs, hi]
  · simp [lentLs, hi]

def lentQ (q : QueryV) (bf bk bu be bo bw : Nat) (A : Nat → Nat) : QueryV :=
  ⟨⟨some ⟨bf, 0, none⟩, q.src.xs.length + 2, q.src.xs⟩, some ⟨bw, 0, none⟩, q.wh.length + 2, lentLs q.wh A, q.group, ⟨some ⟨bk, 0, none⟩, q.keys.xs.length + 2, q.keys.xs⟩, ⟨some ⟨bu, 0, none⟩, q.sums.xs.length + 2, q.sums.xs⟩, ⟨some ⟨be, 0, none⟩, q.sel.xs.length + 2, q.sel.xs⟩, ⟨some ⟨bo, 0, none⟩, q.ord.xs.length + 2, q.ord.xs⟩⟩

theorem lentQ_check (q : QueryV) (bf bk bu be bo bw : Nat) (A : Nat → Nat) (ts : List TableD) : (lentQ q bf bk bu be bo bw A).check ts = q.check ts := by
  have : (lentQ q bf bk bu be bo bw A).whs = q.whs := lentLs_cs q.wh A
  unfold QueryV.check
  rw [this]
  rfl

end Go.Scout
namespace Go.Proofs.YtlpbelhfpoilpaaGreat
open Go.RowKit Go.Scout

theorem lentRow {w : World} {b n : Nat} {t tS : TypeId} {ls : List ClauseV} {A : Nat → Nat} {f : Nat → Value} (hn : n = ls.length) (h : w.rowIs b t (n + 2) f) (hf : ∀ i, i < n → f i = .slice (some ⟨A i, 0, none⟩) (ls.getD i lz).cs.length ((ls.getD i lz).cs.length + 2))
    (hal : ∀ i, i < n → GB w (A i) tS (lentConds (ls.getD i lz).cs)) (hl : ls.length ≤ 1152921504606846976) (hcl : ∀ i, i < ls.length → (ls.getD i lz).cs.length ≤ 230584300921369395) : ClausesAt w (some ⟨b, 0, none⟩) (lentLs ls A) := by
  subst hn
  refine ⟨by rw [lentLs_len]; exact hl, fun i hi => ⟨b, 0, rfl, ?_⟩, fun i hi => ?_⟩
  · rw [lentLs_len] at hi
    rw [Nat.zero_add, h.cell (by omega), hf i hi]
    show _ = some ((lentLs ls A).getD i lz).val
    rw [lentLs_at _ _ hi]
    rfl
  · rw [lentLs_len] at hi
    rw [lentLs_at _ _ hi]
    exact condsAt (hal i hi) (hcl i hi)

theorem Giv_query {w w' : World} {G tG tC tA tS tI tT tN tR tL : Nat} {ts : List TableD} {q : QueryV} {bc bf bk bu be bo bw bp bd : Nat} {v : Value} {A : Nat → Nat} {k1 k2 s1 i1 s2 i2 : Nat}
    (h : Giv w w' G tG tC tA tS tI tT tN tR tL ts q bc bf bk bu be bo bw bp bd v A k1 k2 s1 i1 s2 i2) (hq : q.At w) : (lentQ q bf bk bu be bo bw A).At w' :=
  ⟨lentAt h.src hq.src.1, lentRow rfl h.row (fun i hi => by rw [if_pos hi]) h.al hq.wh.1 (fun i hi => (hq.wh.2.2 i hi).1), lentAt h.keys hq.keys.1, lentAt h.sums hq.sums.1, lentAt h.sel hq.sel.1, lentAt h.ord hq.ord.1⟩

theorem Giv_below {w w' w'' : World} {G tG tC tA tS tI tT tN tR tL : Nat} {ts : List TableD} {q : QueryV} {bc bf bk bu be bo bw bp bd : Nat} {v : Value} {A : Nat → Nat} {k1 k2 s1 i1 s2 i2 : Nat}
    (h : Giv w w' G tG tC tA tS tI tT tN tR tL ts q bc bf bk bu be bo bw bp bd v A k1 k2 s1 i1 s2 i2) (hb : Below w'.heap.size w' w'') : Giv w w'' G tG tC tA tS tI tT tN tR tL ts q bc bf bk bu be bo bw bp bd v A k1 k2 s1 i1 s2 i2 := by
  have m : ∀ {b t : Nat} {c : Array Value}, GB w' b t c → GB w'' b t c := fun g => g.of (hb.block _ g.lt)
  exact ⟨Below.step h.bel hb, h.lo, m h.g, m h.cat, m h.src, m h.keys, m h.sums, m h.sel, m h.ord, h.row.of_block (hb.block _ h.row.lt), fun i hi => m (h.al i hi),
    ownsRow_move h.own (Nat.le_refl _) (fun j _ hj => hb.block j hj), m h.h1, m h.h2, m h.plan, m h.db, m h.r1, m h.r2, m h.q1, m h.q2⟩

end Go.Proofs.YtlpbelhfpoilpaaGreat

