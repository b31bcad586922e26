import Derived.Test.YtpkihnafdaedoaaClauses
namespace Go.Proofs.Ytpkihnafdaedoaa
open Go.RowKit Go.Scout

theorem Try.info53 : (Try.prog.info? 53).map (fun i => (i.zero, i.size, i.bytes)) = some (some (.slice none 0 0), 1, 24) := by kernel_rfl

structure T0 (w00 w0 w' : World) (G tG tR tI tS : Nat) (c : Array Value) (s1 i1 s2 i2 : Nat) : Prop where
  bel : Below w00.heap.size w00 w'
  oth : ∀ j, j < w0.heap.size → j ≠ G → w'.heap[j]? = w0.heap[j]?
  siz : w0.heap.size < w'.heap.size
  g : GB w' G tG c
  row : GB w' w0.heap.size tR #[.slice (some ⟨s1, 0, none⟩) 1 1, .slice (some ⟨s2, 0, none⟩) 1 1]
  r1 : GB w' s1 tI #[.slice (some ⟨i1, 0, none⟩) 1 1]
  r2 : GB w' s2 tI #[.slice (some ⟨i2, 0, none⟩) 1 1]
  q1 : GB w' i1 tS #[.int .i64 77777]
  q2 : GB w' i2 tS #[.int .i64 77777]

theorem cell4 (y : World) (o1 o2 o3 o4 : Obj) (b i : Nat) (h : b < y.heap.size) : ((((y.alloc o1).alloc o2).alloc o3).alloc o4).cell? ⟨b, i, none⟩ = y.cell? ⟨b, i, none⟩ := by
  have h1 := below_alloc y o1
  have h2 := Below.step h1 (below_alloc _ o2)
  have h3 := Below.step h2 (below_alloc _ o3)
  have h4 := Below.step h3 (below_alloc _ o4)
  exact h4.cell (p := ⟨b, i, none⟩) h
theorem frozen4 (y : World) (o1 o2 o3 o4 : Obj) (b i : Nat) (h : b < y.heap.size) : ((((y.alloc o1).alloc o2).alloc o3).alloc o4).frozen? ⟨b, i, none⟩ = y.frozen? ⟨b, i, none⟩ := by
  have h1 := below_alloc y o1
  have h2 := Below.step h1 (below_alloc _ o2)
  have h3 := Below.step h2 (below_alloc _ o3)
  have h4 := Below.step h3 (below_alloc _ o4)
  exact h4.frozen (p := ⟨b, i, none⟩) h

theorem heap4 (y : World) (o1 o2 o3 o4 : Obj) (b : Nat) (h : b < y.heap.size) : ((((y.alloc o1).alloc o2).alloc o3).alloc o4).heap[b]? = y.heap[b]? := by
  have h1 := below_alloc y o1
  have h2 := Below.step h1 (below_alloc _ o2)
  have h3 := Below.step h2 (below_alloc _ o3)
  have h4 := Below.step h3 (below_alloc _ o4)
  exact h4.block b h
theorem heap4_new (y : World) (o1 o2 o3 o4 : Obj) (n : Nat) (h : n = y.heap.size) : ((((y.alloc o1).alloc o2).alloc o3).alloc o4).heap[n]? = some o1 ∧ ((((y.alloc o1).alloc o2).alloc o3).alloc o4).heap[n + 1]? = some o2 ∧
    ((((y.alloc o1).alloc o2).alloc o3).alloc o4).heap[n + 2]? = some o3 ∧ ((((y.alloc o1).alloc o2).alloc o3).alloc o4).heap[n + 3]? = some o4 := by
  subst h
  refine ⟨?_, ?_, ?_, ?_⟩
  · rw [heap_alloc (by simp only [World.size_alloc]; omega), heap_alloc (by simp only [World.size_alloc]; omega), heap_alloc (by simp only [World.size_alloc]; omega), heap_alloc_new]
  · rw [heap_alloc (by simp only [World.size_alloc]; omega), heap_alloc (by simp only [World.size_alloc]; omega), show y.heap.size + 1 = (y.alloc o1).heap.size by simp, heap_alloc_new]
  · rw [heap_alloc (by simp only [World.size_alloc]; omega), show y.heap.size + 2 = ((y.alloc o1).alloc o2).heap.size by simp, heap_alloc_new]
  · rw [show y.heap.size + 3 = (((y.alloc o1).alloc o2).alloc o3).heap.size by simp, heap_alloc_new]

theorem T0.mk' {w00 w0 wr : World} {G tG tR tI tS : Nat} {c : Array Value} (hG0 : w00.heap.size ≤ G) (hGlt : G < w0.heap.size) (hbr : Below w00.heap.size w00 wr) (hoth : ∀ j, j < w0.heap.size → j ≠ G → wr.heap[j]? = w0.heap[j]?)
    (hsz : w0.heap.size < wr.heap.size) (hg : GB wr G tG c) (hrow : GB wr w0.heap.size tR #[.slice none 0 0, .slice none 0 0]) :
    T0 w00 w0 (((((((wr.setCell ⟨w0.heap.size, 0, none⟩ (.slice (some ⟨wr.heap.size + 1, 0, none⟩) 1 1)).alloc (.cells #[.int .i64 77777] tS)).alloc (.cells #[.slice (some ⟨wr.heap.size, 0, none⟩) 1 1] tI)).alloc (.cells #[.int .i64 77777] tS)).alloc
      (.cells #[.slice (some ⟨wr.heap.size + 1 + 1, 0, none⟩) 1 1] tI)).setCell ⟨w0.heap.size, 1, none⟩ (.slice (some ⟨wr.heap.size + 1 + 1 + 1, 0, none⟩) 1 1)).setCell ⟨G, 9, none⟩ (.slice (some ⟨w0.heap.size, 0, none⟩) 0 2))
      G tG tR tI tS (c.setIfInBounds 9 (.slice (some ⟨w0.heap.size, 0, none⟩) 0 2)) (wr.heap.size + 1) wr.heap.size (wr.heap.size + 3) (wr.heap.size + 2) := by
  have hb0 := hbr.size
  let y1 := wr.setCell ⟨w0.heap.size, 0, none⟩ (.slice (some ⟨wr.heap.size + 1, 0, none⟩) 1 1)
  have hy1 : y1.heap.size = wr.heap.size := by simp [y1]
  let y2 := (((y1.alloc (.cells #[.int .i64 77777] tS)).alloc (.cells #[.slice (some ⟨wr.heap.size, 0, none⟩) 1 1] tI)).alloc (.cells #[.int .i64 77777] tS)).alloc (.cells #[.slice (some ⟨wr.heap.size + 1 + 1, 0, none⟩) 1 1] tI)
  have hy2 : y2.heap.size = wr.heap.size + 4 := by simp [y2, hy1]
  show T0 w00 w0 ((y2.setCell ⟨w0.heap.size, 1, none⟩ (.slice (some ⟨wr.heap.size + 1 + 1 + 1, 0, none⟩) 1 1)).setCell ⟨G, 9, none⟩ (.slice (some ⟨w0.heap.size, 0, none⟩) 0 2)) G tG tR tI tS _ _ _ _ _
  have hold : ∀ j, j < wr.heap.size → y2.heap[j]? = y1.heap[j]? := fun j hj => heap4 y1 _ _ _ _ j (by omega)
  have hnew := heap4_new y1 (.cells #[.int .i64 77777] tS) (.cells #[.slice (some ⟨wr.heap.size, 0, none⟩) 1 1] tI) (.cells #[.int .i64 77777] tS) (.cells #[.slice (some ⟨wr.heap.size + 1 + 1, 0, none⟩) 1 1] tI) wr.heap.size hy1.symm
  have hup : ∀ j, j ≠ G → j ≠ w0.heap.size → ((y2.setCell ⟨w0.heap.size, 1, none⟩ (.slice (some ⟨wr.heap.size + 1 + 1 + 1, 0, none⟩) 1 1)).setCell ⟨G, 9, none⟩ (.slice (some ⟨w0.heap.size, 0, none⟩) 0 2)).heap[j]? = y2.heap[j]? := fun j h1 h2 => by
    rw [heap_setCell h1, heap_setCell h2]
  have hblk : ∀ j, j < wr.heap.size → j ≠ G → j ≠ w0.heap.size → ((y2.setCell ⟨w0.heap.size, 1, none⟩ (.slice (some ⟨wr.heap.size + 1 + 1 + 1, 0, none⟩) 1 1)).setCell ⟨G, 9, none⟩ (.slice (some ⟨w0.heap.size, 0, none⟩) 0 2)).heap[j]? = wr.heap[j]? := fun j hj h1 h2 => by
    rw [hup j h1 h2, hold j hj]
    exact heap_setCell h2
  have hb1 : Below w00.heap.size w00 y1 := hbr.setCell (p := ⟨w0.heap.size, 0, none⟩) (by show w00.heap.size ≤ w0.heap.size; omega) _
  have hb2 : Below w00.heap.size w00 y2 := by
    have a1 := hb1.alloc hb1.size (.cells #[.int .i64 77777] tS)
    have a2 := a1.alloc a1.size (.cells #[.slice (some ⟨wr.heap.size, 0, none⟩) 1 1] tI)
    have a3 := a2.alloc a2.size (.cells #[.int .i64 77777] tS)
    exact a3.alloc a3.size _
  refine ⟨(hb2.setCell (p := ⟨w0.heap.size, 1, none⟩) (by show w00.heap.size ≤ w0.heap.size; omega) _).setCell (p := ⟨G, 9, none⟩) hG0 _, fun j hj hne => ?_, ?_, ?_, ?_, ?_, ?_, ?_, ?_⟩
  · rw [hblk j (by omega) hne (by omega)]
    exact hoth j hj hne
  · simp [hy2]; omega
  · have h1 : GB y2 G tG c := hg.of ((hold G (by omega)).trans (heap_setCell (by show G ≠ w0.heap.size; omega)))
    have h2 : GB (y2.setCell ⟨w0.heap.size, 1, none⟩ (.slice (some ⟨wr.heap.size + 1 + 1 + 1, 0, none⟩) 1 1)) G tG c := h1.of (heap_setCell (by show G ≠ w0.heap.size; omega))
    exact h2.set 9 _
  · have h1 : GB y1 w0.heap.size tR _ := hrow.set 0 (.slice (some ⟨wr.heap.size + 1, 0, none⟩) 1 1)
    have h2 : GB y2 w0.heap.size tR _ := h1.of (hold _ hsz)
    have h3 := h2.set 1 (.slice (some ⟨wr.heap.size + 1 + 1 + 1, 0, none⟩) 1 1)
    exact h3.of (heap_setCell (by show w0.heap.size ≠ G; omega))
  · exact GB.of (w := y2) hnew.2.1 (hup _ (by omega) (by omega))
  · exact GB.of (w := y2) hnew.2.2.2 (hup _ (by omega) (by omega))
  · exact GB.of (w := y2) hnew.1 (hup _ (by omega) (by omega))
  · exact GB.of (w := y2) hnew.2.2.1 (hup _ (by omega) (by omega))

set_option maxRecDepth 20000 in
set_option maxHeartbeats 8000000 in
theorem tables0_any (w00 w : World) (G : Nat) (c0 c1 c2 c3 c4 c5 c6 c7 c8 c9 c10 c11 c12 c13 c14 c15 : Value) (hb : Below w00.heap.size w00 w) (hG0 : w00.heap.size ≤ G)
    (hG : GB w G 35 #[c0, c1, c2, c3, c4, c5, c6, c7, c8, c9, c10, c11, c12, c13, c14, c15]) :
    Calls Try.prog 21 #[.pointer (some ⟨G, 0, none⟩), .slice none 0 0] w fun e w' => e = .returned (.tuple #[]) ∧ ∃ s1 i1 s2 i2, T0 w00 w w' G 35 53 23 3
      #[c0, c1, c2, c3, c4, c5, c6, c7, c8, .slice (some ⟨w.heap.size, 0, none⟩) 0 2, c10, c11, c12, c13, .slice (some ⟨w.heap.size, 0, none⟩) 2 2, c15] s1 i1 s2 i2 := by
  have hmk := run_make_row' (P := Try.prog) 32 53 (.slice none 0 0) 24 Try.underlying32 Try.info53 rfl .i64 .i64 2 (by omega) (by omega)
  have hGlt := hG.lt
  have g14 : w.cell? ⟨G, 14, none⟩ = some c14 := hG.cell 14
  have f14 : w.frozen? ⟨G, 14, none⟩ = false := hG.frozen 14
  have hmc : madeCells #[Value.slice none 0 0] 2 = #[Value.slice none 0 0, Value.slice none 0 0] := by rw [madeCells_one]; rfl
  rw [hmc] at hmk
  simp only [Int.cast_ofNat_Int] at hmk
  go_enter Try.func21, Try.ntmps21
  go_wp2
  go_loopw [5] (fun i wr => i = .int .i64 0 ∧ Below w00.heap.size w00 wr ∧ (∀ j, j < w.heap.size → j ≠ G → wr.heap[j]? = w.heap[j]?) ∧ w.heap.size < wr.heap.size ∧
    GB wr G 35 #[c0, c1, c2, c3, c4, c5, c6, c7, c8, c9, c10, c11, c12, c13, .slice (some ⟨w.heap.size, 0, none⟩) 2 2, c15] ∧ GB wr w.heap.size 53 #[.slice none 0 0, .slice none 0 0]) (fun _ _ => 0)
  case atStart =>
    have hb1 := hb.setCell (p := ⟨G, 14, none⟩) hG0 (.slice (some ⟨w.heap.size, 0, none⟩) 2 2)
    refine ⟨rfl, hb1.alloc hb1.size _, fun j hj hne => ?_, by simp, ?_, ?_⟩
    · rw [heap_alloc (by simpa using hj), heap_setCell hne]
    · exact (hG.set 14 (.slice (some ⟨w.heap.size, 0, none⟩) 2 2)).of (heap_alloc (by simpa using hGlt))
    · have := heap_alloc_new (w.setCell ⟨G, 14, none⟩ (.slice (some ⟨w.heap.size, 0, none⟩) 2 2)) (.cells #[.slice none 0 0, .slice none 0 0] 53)
      rw [World.size_setCell] at this
      exact this
  case round =>
    obtain ⟨rfl, hbr, hoth, hsz, hg, hrow⟩ := hrel
    have h14 : wr.cell? ⟨G, 14, none⟩ = some (.slice (some ⟨w.heap.size, 0, none⟩) 2 2) := hg.cell 14
    have h9 : wr.cell? ⟨G, 9, none⟩ = some c9 := hg.cell 9
    have f9 : wr.frozen? ⟨G, 9, none⟩ = false := hg.frozen 9
    have r0 : wr.cell? ⟨w.heap.size, 0, none⟩ = some (.slice none 0 0) := hrow.cell 0
    have r1 : wr.cell? ⟨w.heap.size, 1, none⟩ = some (.slice none 0 0) := hrow.cell 1
    have e0 : wr.frozen? ⟨w.heap.size, 0, none⟩ = false := hrow.frozen 0
    have e1 : wr.frozen? ⟨w.heap.size, 1, none⟩ = false := hrow.frozen 1
    have hGW : ¬ w.heap.size = G := by omega
    have hGW' : ¬ G = w.heap.size := by omega
    have hGr : G < wr.heap.size := by omega
    clear g14 f14
    have hc4 := cell4
    have hf4 := frozen4
    go_wp2
    go_end0
    refine ⟨rfl, wr.heap.size + 1, wr.heap.size, wr.heap.size + 3, wr.heap.size + 2, ?_⟩
    exact T0.mk' hG0 hGlt hbr hoth hsz hg hrow

end Go.Proofs.Ytpkihnafdaedoaa
