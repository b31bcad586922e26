import Derived.Test.YtlpbelhfpoilpaaCBase8ClausesTables0Base9
set_option linter.all false
namespace Go.Proofs.Ytlpbelhfpoilpaa
open Go.RowKit Go.Scout

theorem Try.info60 : (Try.prog.info? 60).map (fun i => (i.zero, i.size, i.bytes)) = some (some (.agg zt.toArray), 6, 48) := by kernel_rfl
theorem Try.info64 : (Try.prog.info? 64).map (fun i => (i.zero, i.size, i.bytes)) = some (some (.agg zn.toArray), 7, 88) := by kernel_rfl
theorem makeNodes2 (w : World) :
    (Instr.makeSlice 31 (.int .i64 2) (.int .i64 2)).run Try.prog w = .ok (.slice (some ⟨w.heap.size, 0, none⟩) 2 2) (w.alloc (.cells (zn ++ zn).toArray 64)) := by
  obtain ⟨i, hi, hz0, hz1, hz2⟩ := info_parts Try.info64
  have := run_make (P := Try.prog) w 31 64 i _ Try.underlying31 hi hz0 .i64 .i64 2 2 (by omega) (Int.le_refl _) (by rw [hz2]; omega) (by omega)
  rw [hz1] at this
  have e : madeCells (Value.cells (.agg zn.toArray)) ((2 : Int).toNat * 7) = (zn ++ zn).toArray := by
    have h := made_drop zn.toArray 7 0 rfl (by omega)
    have h2 : (madeCells zn.toArray ((0 + 2) * 7)).toList = zn ++ zn := by simpa using h
    apply Array.toList_inj.1
    exact h2
  rw [e] at this
  exact this
theorem Try.size60 : (Try.prog.info? 60).map (·.size) = some 6 := by kernel_rfl

theorem makeTabs (n : Nat) (h : n * 48 ≤ 140737488351232) (w : World) :
    (Instr.makeSlice 22 (.int .i64 ((n : Int) + 2)) (.int .i64 ((n : Int) + 2))).run Try.prog w = .ok (.slice (some ⟨w.heap.size, 0, none⟩) (n + 2) (n + 2)) (w.alloc (.cells (madeCells zt.toArray ((n + 2) * 6)) 60)) := by
  obtain ⟨i, hi, hz0, hz1, hz2⟩ := info_parts Try.info60
  have := run_make (P := Try.prog) w 22 60 i _ Try.underlying22 hi hz0 .i64 .i64 ((n : Int) + 2) ((n : Int) + 2) (by omega) (Int.le_refl _) (by rw [hz2]; omega) (by omega)
  rw [hz1, show ((n : Int) + 2).toNat = n + 2 by omega] at this
  simpa [Value.cells, zt] using this

theorem copyTabs (w y : World) (N : Nat) (ao : Option Addr) (cap : Nat) (ts : List TableD) (h : TablesAt w ao ts) (hb : Below w.heap.size w y) (hN : N = y.heap.size) (ty : TypeId) :
    (Builtin.copy_ #[22, 22] ty #[.slice (some ⟨N, 0, none⟩) (ts.length + 2) (ts.length + 2), .slice ao ts.length cap]).run Try.prog (y.alloc (.cells (madeCells zt.toArray ((ts.length + 2) * 6)) 60)) =
      .ok (goInt ts.length) (y.alloc (.cells (tabs1 ts) 60)) := by
  subst hN
  exact run_copy_new (P := Try.prog) y 22 60 6 zt.toArray ao ts.length cap (ts.flatMap tabVals) (by omega) rfl (length_flat _ 6 tvals_len ts) (tabs_src (h.below hb)) (tabs_one ts) Try.underlying22 Try.size60 ty

theorem setCell_tabs1 (y : World) (N : Nat) (ts : List TableD) (t : TypeId) (hN : N = y.heap.size) : (y.alloc (.cells (tabs1 ts) t)).setCell ⟨N, ts.length * 6, none⟩ (.int .i64 77777) = y.alloc (.cells (tabs2 ts) t) := by
  subst hN
  rw [setCell_alloc, tabs1_set]
theorem setCell_tabs2 (y : World) (N : Nat) (ts : List TableD) (t : TypeId) (hN : N = y.heap.size) : (y.alloc (.cells (tabs2 ts) t)).setCell ⟨N, (ts.length + 1) * 6, none⟩ (.int .i64 77777) = y.alloc (.cells (lentTabs ts) t) := by
  subst hN
  rw [setCell_alloc, tabs2_set]
theorem cell_tabs1 (y : World) (N : Nat) (ts : List TableD) (t : TypeId) (hN : N = y.heap.size) : (y.alloc (.cells (tabs1 ts) t)).cell? ⟨N, ts.length * 6, none⟩ = some (.int .i64 0) := by
  subst hN
  rw [World.cell?_alloc_new, tabs1_at]
theorem cell_tabs2 (y : World) (N : Nat) (ts : List TableD) (t : TypeId) (hN : N = y.heap.size) : (y.alloc (.cells (tabs2 ts) t)).cell? ⟨N, (ts.length + 1) * 6, none⟩ = some (.int .i64 0) := by
  subst hN
  rw [World.cell?_alloc_new, tabs2_at]

theorem lend_pre {w W : World} {G tG : Nat} {c : Array Value} {bs : List (Nat × Obj)} (hP : Pre w W G tG c bs) (ao : Option Addr) (cap : Nat) (xs : List Int) (hx : IntsAt w ao xs) (hsz : xs.length * 8 ≤ 140737488351232) :
    Calls Try.prog 19 #[.slice ao xs.length cap] W fun e w' => ∃ b, e = .returned (.slice (some ⟨b, 0, none⟩) xs.length (xs.length + 2)) ∧ Pre w w' G tG c ((b, .cells (lentCells xs) 3) :: bs) :=
  (lend_any ao cap xs W (hx.below hP.bel) hsz).mono fun _ _ ⟨he, hw⟩ => ⟨W.heap.size, he, by rw [hw]; exact hP.alloc _⟩

set_option maxRecDepth 20000 in
set_option maxHeartbeats 8000000 in
theorem give0_any (ao : Option Addr) (cap : Nat) (ts : List TableD) (q : QueryV) (w : World) (hx : TablesAt w ao ts) (hq : q.At w) (hsz : ts.length * 48 ≤ 140737488351232)
    (z1 : q.src.xs.length * 8 ≤ 140737488351232) (z2 : q.keys.xs.length * 8 ≤ 140737488351232) (z3 : q.sums.xs.length * 8 ≤ 140737488351232) (z4 : q.sel.xs.length * 8 ≤ 140737488351232) (z5 : q.ord.xs.length * 8 ≤ 140737488351232)
    (z6 : q.wh.length * 24 ≤ 140737488351232) (z7 : ∀ i, i < q.wh.length → (q.wh.getD i lz).cs.length * 40 ≤ 140737488351232) :
    Calls Try.prog 6 #[.slice ao ts.length cap, .agg q.cells, .slice none 0 0, .slice none 0 0] w fun e w' => ∃ G bc bf bk bu be bo bw bp bd v A k1 k2 s1 i1 s2 i2, e = .returned (.pointer (some ⟨G, 0, none⟩)) ∧
      Giv w w' G 35 68 47 46 3 60 64 53 23 ts q bc bf bk bu be bo bw bp bd v A k1 k2 s1 i1 s2 i2 := by
  have hmk := makeTabs ts.length hsz
  have hl := hx.1
  obtain ⟨src, wad, wcap, wh, group, keys, sums, sel, ord⟩ := q
  have hsrc : IntsAt w src.ad src.xs := hq.src
  have hkeys : IntsAt w keys.ad keys.xs := hq.keys
  have hsums : IntsAt w sums.ad sums.xs := hq.sums
  have hsel : IntsAt w sel.ad sel.xs := hq.sel
  have hord : IntsAt w ord.ad ord.xs := hq.ord
  have hwh : ClausesAt w wad wh := hq.wh
  clear hq
  simp only at z1 z2 z3 z4 z5 z6 z7
  unfold QueryV.cells IntsV.val
  simp only
  have hcp := fun (o1 o2 : Obj) (ty : TypeId) => copyTabs w ((w.alloc o1).alloc o2) (w.heap.size + 1 + 1) ao cap ts hx (Below.step (below_alloc _ _) (below_alloc _ _)) (by simp) ty
  have hs1 := fun (o1 o2 : Obj) => setCell_tabs1 ((w.alloc o1).alloc o2) (w.heap.size + 1 + 1) ts 60 (by simp)
  have hs2 := fun (o1 o2 : Obj) => setCell_tabs2 ((w.alloc o1).alloc o2) (w.heap.size + 1 + 1) ts 60 (by simp)
  have ha1 := fun (o1 o2 : Obj) => cell_tabs1 ((w.alloc o1).alloc o2) (w.heap.size + 1 + 1) ts 60 (by simp)
  have ha2 := fun (o1 o2 : Obj) => cell_tabs2 ((w.alloc o1).alloc o2) (w.heap.size + 1 + 1) ts 60 (by simp)
  go_enter Try.func6, Try.ntmps6
  go_wp2_with fail
  refine (lend_pre (Pre.start w _ _ _ _) src.ad src.cap src.xs hsrc z1).mono ?_
  clear hmk hcp hs1 hs2 ha1 ha2 hx
  have hGB : ¬ w.heap.size = w.heap.size + 1 := by omega
  have hGB' : ¬ w.heap.size + 1 = w.heap.size := by omega
  rintro e w1 ⟨b1, rfl, P1⟩
  have p1 := P1.g.cell 1
  have p1' := P1.g.frozen 1
  have p2 := (P1.at (b := w.heap.size) (List.Mem.tail _ (List.Mem.tail _ (List.Mem.head _)))).cell 3
  simp at p1 p2
  go_wp2_with fail
  refine (lend_pre (P1.store 1 _) keys.ad keys.cap keys.xs hkeys z2).mono ?_
  clear P1 p1 p1' p2
  rintro e w2 ⟨b2, rfl, P2⟩
  simp only [List.setIfInBounds_toArray, List.set_cons_succ, List.set_cons_zero] at P2
  have p1 := P2.g.cell 4
  have p1' := P2.g.frozen 4
  have p2 := (P2.at (b := w.heap.size) (List.Mem.tail _ (List.Mem.tail _ (List.Mem.tail _ (List.Mem.head _))))).cell 4
  simp at p1 p2
  go_wp2_with fail
  refine (lend_pre (P2.store 4 _) sums.ad sums.cap sums.xs hsums z3).mono ?_
  clear P2 p1 p1' p2
  rintro e w3 ⟨b3, rfl, P3⟩
  simp only [List.setIfInBounds_toArray, List.set_cons_succ, List.set_cons_zero] at P3
  have p1 := P3.g.cell 5
  have p1' := P3.g.frozen 5
  have p2 := (P3.at (b := w.heap.size) (List.Mem.tail _ (List.Mem.tail _ (List.Mem.tail _ (List.Mem.tail _ (List.Mem.head _)))))).cell 5
  simp at p1 p2
  go_wp2_with fail
  refine (lend_pre (P3.store 5 _) sel.ad sel.cap sel.xs hsel z4).mono ?_
  clear P3 p1 p1' p2
  rintro e w4 ⟨b4, rfl, P4⟩
  simp only [List.setIfInBounds_toArray, List.set_cons_succ, List.set_cons_zero] at P4
  have p1 := P4.g.cell 6
  have p1' := P4.g.frozen 6
  have p2 := (P4.at (b := w.heap.size) (List.Mem.tail _ (List.Mem.tail _ (List.Mem.tail _ (List.Mem.tail _ (List.Mem.tail _ (List.Mem.head _))))))).cell 6
  simp at p1 p2
  go_wp2_with fail
  refine (lend_pre (P4.store 6 _) ord.ad ord.cap ord.xs hord z5).mono ?_
  clear P4 p1 p1' p2
  rintro e w5 ⟨b5, rfl, P5⟩
  simp only [List.setIfInBounds_toArray, List.set_cons_succ, List.set_cons_zero] at P5
  have p1 := P5.g.cell 7
  have p1' := P5.g.frozen 7
  have p2 := (P5.at (b := w.heap.size) (List.Mem.tail _ (List.Mem.tail _ (List.Mem.tail _ (List.Mem.tail _ (List.Mem.tail _ (List.Mem.tail _ (List.Mem.head _)))))))).cell 1
  simp at p1 p2
  go_wp2_with fail
  have P6 := P5.store 7 (.slice (some ⟨b5, 0, none⟩) ord.xs.length (ord.xs.length + 2))
  simp only [List.setIfInBounds_toArray, List.set_cons_succ, List.set_cons_zero] at P6
  clear P5 p1 p1' p2
  generalize w5.setCell ⟨w.heap.size + 1, 7, none⟩ (.slice (some ⟨b5, 0, none⟩) ord.xs.length (ord.xs.length + 2)) = w6 at *
  refine (clauses_any w w6 (w.heap.size + 1) wad wcap wh _ _ _ _ _ _ _ _ _ _ _ _ _ _ _ hwh z6 z7 P6.bel P6.lo P6.g).mono ?_
  rintro e w7 ⟨rfl, v, A, k1, k2, C⟩
  have hG6 := P6.g.lt
  obtain ⟨c7, hc7, P7⟩ : ∃ c, c = _ ∧ Pre w w7 (w.heap.size + 1) 35 c _ := ⟨_, rfl, P6.move C.bel C.oth C.g⟩
  have hmk := makeNodes2
  have hGlt := P7.g.lt
  have hlo := P7.lo
  have p1 : w7.cell? ⟨w.heap.size + 1, 13, none⟩ = some (.slice none 0 0) := by rw [P7.g.cell 13, hc7]; rfl
  have p1' := P7.g.frozen 13
  have hcs : (c7.setIfInBounds 13 (.slice (some ⟨w7.heap.size, 0, none⟩) 2 2))[13]? = some (.slice (some ⟨w7.heap.size, 0, none⟩) 2 2) := by rw [hc7]; rfl
  have hc8 : (c7.setIfInBounds 13 (.slice (some ⟨w7.heap.size, 0, none⟩) 2 2))[8]? = some (.slice none 0 0) := by rw [hc7]; rfl
  have HC7 : Hid _ := hc7
  clear P6 hc7
  go_wp2
  go_loopw [10] (fun i wr => i = .int .i64 0 ∧ Below w.heap.size w wr ∧ (∀ j, j < w7.heap.size → j ≠ w.heap.size + 1 → wr.heap[j]? = w7.heap[j]?) ∧ w7.heap.size < wr.heap.size ∧
    GB wr (w.heap.size + 1) 35 (c7.setIfInBounds 13 (.slice (some ⟨w7.heap.size, 0, none⟩) 2 2)) ∧ GB wr w7.heap.size 64 (zn ++ zn).toArray) (fun _ _ => 0)
  case atStart =>
    have hb1 := P7.bel.setCell (p := ⟨w.heap.size + 1, 13, none⟩) P7.lo (.slice (some ⟨w7.heap.size, 0, none⟩) 2 2)
    refine ⟨rfl, hb1.alloc hb1.size _, fun j hj hne => ?_, by simp, ?_, ?_⟩
    · rw [heap_alloc (by simpa using hj), heap_setCell hne]
    · exact (P7.g.set 13 (.slice (some ⟨w7.heap.size, 0, none⟩) 2 2)).of (heap_alloc (by simpa using hGlt))
    · have := heap_alloc_new (w7.setCell ⟨w.heap.size + 1, 13, none⟩ (.slice (some ⟨w7.heap.size, 0, none⟩) 2 2)) (.cells (zn ++ zn).toArray 64)
      rw [World.size_setCell] at this
      exact this
  case round =>
    obtain ⟨rfl, hbr, hoth, hsz', hg, hrow⟩ := hrel
    have h13 : wr.cell? ⟨w.heap.size + 1, 13, none⟩ = some (.slice (some ⟨w7.heap.size, 0, none⟩) 2 2) := by rw [hg.cell 13, hcs]
    have h8 : wr.cell? ⟨w.heap.size + 1, 8, none⟩ = some (.slice none 0 0) := by rw [hg.cell 8, hc8]
    have f8 := hg.frozen 8
    have r0 : wr.cell? ⟨w7.heap.size, 0, none⟩ = some (.int .i64 0) := by rw [hrow.cell 0]; rfl
    have r7 : wr.cell? ⟨w7.heap.size, 7, none⟩ = some (.int .i64 0) := by rw [hrow.cell 7]; rfl
    have e0 := hrow.frozen 0
    have e7 := hrow.frozen 7
    have hGW : ¬ w7.heap.size = w.heap.size + 1 := by omega
    have hGW' : ¬ w.heap.size + 1 = w7.heap.size := by omega
    clear p1 p1' hcs hc8 hmk
    go_wp2_with fail
    have hb8 : Below w.heap.size w (((wr.setCell ⟨w7.heap.size, 0, none⟩ (.int .i64 77777)).setCell ⟨w7.heap.size, 7, none⟩ (.int .i64 77777)).setCell ⟨w.heap.size + 1, 8, none⟩ (.slice (some ⟨w7.heap.size, 0, none⟩) 0 2)) :=
      ((hbr.setCell (p := ⟨w7.heap.size, 0, none⟩) (by show w.heap.size ≤ w7.heap.size; omega) _).setCell (p := ⟨w7.heap.size, 7, none⟩) (by show w.heap.size ≤ w7.heap.size; omega) _).setCell (p := ⟨w.heap.size + 1, 8, none⟩) hlo _
    have ho8 : ∀ j, j < w7.heap.size → j ≠ w.heap.size + 1 → (((wr.setCell ⟨w7.heap.size, 0, none⟩ (.int .i64 77777)).setCell ⟨w7.heap.size, 7, none⟩ (.int .i64 77777)).setCell ⟨w.heap.size + 1, 8, none⟩ (.slice (some ⟨w7.heap.size, 0, none⟩) 0 2)).heap[j]? = w7.heap[j]? := fun j hj hne => by
      rw [heap_setCell hne, heap_setCell (by show j ≠ w7.heap.size; omega), heap_setCell (by show j ≠ w7.heap.size; omega)]
      exact hoth j hj hne
    have hg8 : GB (((wr.setCell ⟨w7.heap.size, 0, none⟩ (.int .i64 77777)).setCell ⟨w7.heap.size, 7, none⟩ (.int .i64 77777)).setCell ⟨w.heap.size + 1, 8, none⟩ (.slice (some ⟨w7.heap.size, 0, none⟩) 0 2)) (w.heap.size + 1) 35 _ :=
      GB.set (hg.of (by rw [heap_setCell (by show w.heap.size + 1 ≠ w7.heap.size; omega), heap_setCell (by show w.heap.size + 1 ≠ w7.heap.size; omega)])) 8 (.slice (some ⟨w7.heap.size, 0, none⟩) 0 2)
    have hp8 : GB (((wr.setCell ⟨w7.heap.size, 0, none⟩ (.int .i64 77777)).setCell ⟨w7.heap.size, 7, none⟩ (.int .i64 77777)).setCell ⟨w.heap.size + 1, 8, none⟩ (.slice (some ⟨w7.heap.size, 0, none⟩) 0 2)) w7.heap.size 64 (nk ++ nk).toArray :=
      ((hrow.set 0 (.int .i64 77777)).set 7 (.int .i64 77777)).of (heap_setCell (by show w7.heap.size ≠ w.heap.size + 1; omega))
    generalize (((wr.setCell ⟨w7.heap.size, 0, none⟩ (.int .i64 77777)).setCell ⟨w7.heap.size, 7, none⟩ (.int .i64 77777)).setCell ⟨w.heap.size + 1, 8, none⟩ (.slice (some ⟨w7.heap.size, 0, none⟩) 0 2)) = w8 at *
    rw [HC7.out] at hg8
    simp only [List.setIfInBounds_toArray, List.set_cons_succ, List.set_cons_zero] at hg8
    have P8 := P7.move hb8 ho8 hg8
    refine (tables0_any w w8 (w.heap.size + 1) _ _ _ _ _ _ _ _ _ _ _ _ _ _ _ _ hb8 hlo hg8).mono ?_
    rintro e w9 ⟨rfl, s1, i1, s2, i2, T⟩
    have P9 := P8.move T.bel T.oth T.g
    clear h13 h8 f8 r0 r7 e0 e7 hGW hGW' hg8 P8 hg hrow hoth hbr
    have ho9 : ∀ j, j < w7.heap.size → j ≠ w.heap.size + 1 → w9.heap[j]? = w7.heap[j]? := fun j hj hne => (T.oth j (by have := hp8.lt; omega) hne).trans (ho8 j hj hne)
    have HO : Hid _ := ho9
    have HP : Hid _ := hp8
    clear ho8 ho9 hp8
    go_wp2
    go_ret
    have ho9 := HO.out
    refine ⟨w.heap.size + 1, w.heap.size + 2, b1, b2, b3, b4, b5, w6.heap.size, w7.heap.size, w8.heap.size, v, A, k1, k2, s1, i1, s2, i2, rfl, ⟨P9.bel, P9.lo, P9.g, P9.at (List.Mem.tail _ (List.Mem.tail _ (List.Mem.tail _ (List.Mem.tail _ (List.Mem.tail _ (List.Mem.head _)))))), P9.at (List.Mem.tail _ (List.Mem.tail _ (List.Mem.tail _ (List.Mem.tail _ (List.Mem.head _))))), P9.at (List.Mem.tail _ (List.Mem.tail _ (List.Mem.tail _ (List.Mem.head _)))), P9.at (List.Mem.tail _ (List.Mem.tail _ (List.Mem.head _))), P9.at (List.Mem.tail _ (List.Mem.head _)), P9.at (List.Mem.head _), ?_, fun i hi => ?_, ?_, ?_, ?_, ?_, T.row, T.r1, T.r2, T.q1, T.q2⟩⟩
    · exact C.row.of_block (ho9 _ C.siz (by omega))
    · have hA := C.al i hi
      exact hA.2.of (ho9 _ hA.2.lt (by omega))
    · exact ownsRow_move C.own (by have := P7.bel.size; have := hG6; omega) (fun j h1 h2 => ho9 j h2 (by omega))
    · exact C.k1.2.of (ho9 _ C.k1.2.lt (by have := C.k1.1; omega))
    · exact C.k2.2.of (ho9 _ C.k2.2.lt (by have := C.k2.1; omega))
    · have hp8 : GB w8 w7.heap.size 64 (nk ++ nk).toArray := HP.out
      exact hp8.of (T.oth _ hp8.lt (by omega))

end Go.Proofs.Ytlpbelhfpoilpaa

namespace Go.Proofs.Ytlpbelhfpoilpaa
open Go.RowKit Go.Scout

set_option maxHeartbeats 2000000 in
theorem sameInts_any (ao bo : Option Addr) (cap cap' : Nat) (xs : List Int) (w : World) (hx : IntsAt w ao xs) (hy : IntsAt w bo xs) :
    Calls Try.prog 45 #[.slice ao xs.length cap, .slice bo xs.length cap'] w fun e w' => e = .returned (.bool true) ∧ ∃ n, w' = w.drewN n := by
  have hl := hx.1
  have hne : ((xs.length : Int) != xs.length) = false := by simp
  go_enter Try.func45, Try.ntmps45
  go_wp2
  go_loopw [5] (fun i wr => ∃ k : Nat, k ≤ xs.length ∧ i = .int .i64 k ∧ ∃ n, wr = w.drewN n) (fun i _ => xs.length - (intOf i).toNat)
  case atStart => exact ⟨0, Nat.zero_le _, rfl, 0, rfl⟩
  case round =>
    obtain ⟨k, hk, rfl, n, rfl⟩ := hrel
    by_cases hlt : k < xs.length
    · obtain ⟨b, off, rfl, hc⟩ := hx.get hlt
      obtain ⟨b', off', rfl, hc'⟩ := hy.get hlt
      have h1 := hc k hlt
      have h2 := hc' k hlt
      clear hc hc' hx hy
      generalize xs.getD k 0 = x at *
      have hxx : (x != x) = false := by simp
      go_wp2
      go_quiet (fail)
      go_wp2
      go_roundw
      case rel => exact ⟨k + 1, by omega, by go_num, _, rfl⟩
      case measure => simp [intOf]; omega
    · go_wp2
      go_ret
      exact ⟨rfl, _, rfl⟩

theorem lentAt {w : World} {b : Nat} {xs : List Int} {t : TypeId} (h : GB w b t (lentCells xs)) (hl : xs.length ≤ 1152921504606846976) : IntsAt w (some ⟨b, 0, none⟩) xs := by
  refine ⟨hl, fun i hi => ⟨b, 0, rfl, ?_⟩⟩
  rw [Nat.zero_add, h.cell i]
  unfold lentCells
  rw [List.getElem?_toArray, List.getElem?_append_left (by simpa using hi), List.getElem?_map]
  simp [List.getD, hi]

theorem lent_i0 (xs : List Int) : (lentCells xs)[xs.length]? = some (.int .i64 77777) := by simp [lentCells]
theorem lent_i1 (xs : List Int) : (lentCells xs)[xs.length + 1]? = some (.int .i64 77777) := by simp [lentCells]

set_option maxHeartbeats 2000000 in
theorem lent_true (b : Nat) (bo : Option Addr) (cap' : Nat) (xs : List Int) (w : World) (hG : GB w b 3 (lentCells xs)) (hy : IntsAt w bo xs) :
    Calls Try.prog 30 #[.slice (some ⟨b, 0, none⟩) xs.length (xs.length + 2), .slice bo xs.length cap'] w fun e w' => e = .returned (.bool true) ∧ Below w.heap.size w w' := by
  have hl := hy.1
  have hne : ((xs.length : Int) != xs.length) = false := by simp
  have h0 : w.cell? ⟨b, xs.length, none⟩ = some (.int .i64 77777) := by rw [hG.cell, lent_i0]
  have h1 : w.cell? ⟨b, xs.length + 1, none⟩ = some (.int .i64 77777) := by rw [hG.cell, lent_i1]
  have hC := sameInts_any (some ⟨b, 0, none⟩) bo (xs.length + 2) cap' xs w (lentAt hG hl) hy
  go_enter Try.func30, Try.ntmps30
  go_wp2_with fail
  refine hC.mono ?_
  clear hC
  rintro e w2 ⟨rfl, n, rfl⟩
  go_wp2
  go_ret
  exact ⟨rfl, below_drewN (Below.refl _ _) _⟩

theorem inked_true (b : Nat) (w : World) (hG : GB w b 3 #[.int .i64 77777]) :
    Calls Try.prog 46 #[.slice (some ⟨b, 0, none⟩) 1 1] w fun e w' => e = .returned (.bool true) ∧ w' = w := by
  have h0 : w.cell? ⟨b, 0, none⟩ = some (.int .i64 77777) := hG.cell 0
  go_enter Try.func46, Try.ntmps46
  go_wp2
  go_ret
  exact ⟨rfl, rfl⟩

end Go.Proofs.Ytlpbelhfpoilpaa

namespace Go.Proofs.Ytlpbelhfpoilpaa
open Go.RowKit Go.Scout

set_option maxRecDepth 20000 in
set_option maxHeartbeats 4000000 in
theorem sameWhere_true (ao bo : Option Addr) (cap cap' : Nat) (ls ms : List ClauseV) (w : World) (hx : ClausesAt w ao ls) (hy : ClausesAt w bo ms) (he : ls.length = ms.length) (hcs : ∀ i, i < ls.length → (ls.getD i lz).cs = (ms.getD i lz).cs) :
    Calls Try.prog 29 #[.slice ao ls.length cap, .slice bo ms.length cap'] w fun e w' => e = .returned (.bool true) ∧ Below w.heap.size w w' := by
  have hl := hx.1
  rw [← he]
  have hne : ((ls.length : Int) != ls.length) = false := by simp
  go_enter Try.func29, Try.ntmps29
  go_wp2
  go_loopw [5] (fun i wr => ∃ k : Nat, k ≤ ls.length ∧ i = .int .i64 k ∧ ∃ n, wr = w.drewN n) (fun i _ => ls.length - (intOf i).toNat)
  case atStart => exact ⟨0, Nat.zero_le _, rfl, 0, rfl⟩
  case round =>
    obtain ⟨k, hk, rfl, n, rfl⟩ := hrel
    by_cases hlt : k < ls.length
    · obtain ⟨b, off, rfl, hc⟩ := hx.2.1.get hlt
      obtain ⟨b', off', rfl, hc'⟩ := hy.2.1.get (show k < ms.length by omega)
      have h1 := hc k hlt
      have h2 := hc' k (by omega)
      have hd1 := hx.2.2 k hlt
      have hd2 := hy.2.2 k (by omega)
      have hee := hcs k hlt
      clear hc hc' hx hy hcs
      generalize ls.getD k lz = c1 at *
      generalize ms.getD k lz = c2 at *
      obtain ⟨ad1, cp1, cs1⟩ := c1
      obtain ⟨ad2, cp2, cs2⟩ := c2
      simp only at hee hd1 hd2
      subst hee
      unfold ClauseV.val at h1 h2
      simp only at h1 h2
      have hcl := hd1.1
      have hnn : ((cs1.length : Int) != cs1.length) = false := by simp
      go_wp2
      go_quiet (fail)
      go_wp2
      go_loopw [6] (fun i wr => ∃ m : Nat, m ≤ cs1.length ∧ i = .int .i64 m ∧ ∃ n, wr = w.drewN n) (fun i _ => cs1.length - (intOf i).toNat)
      case atStart => exact ⟨0, Nat.zero_le _, rfl, _, World.drewN_drewN _ _ _⟩
      case round =>
        obtain ⟨m, hm, rfl, n2, rfl⟩ := hrel
        by_cases hml : m < cs1.length
        · obtain ⟨b3, off3, rfl, e0, e1, e2, e3, e4⟩ := hd1.2 m hml
          obtain ⟨b4, off4, rfl, i0, i1, i2, i3, i4⟩ := hd2.2 m hml
          generalize cs1.getD m cz = cc at *
          clear hd1 hd2
          go_wp2
          go_quiet (fail)
          go_wp2
          go_roundw
          case rel => exact ⟨m + 1, by omega, by go_num, _, rfl⟩
          case measure => simp [intOf]; omega
        · go_wp2
          go_roundw
          case rel => exact ⟨k + 1, by omega, by go_num, _, rfl⟩
          case measure => simp [intOf]; omega
    · go_wp2
      go_ret
      exact ⟨rfl, below_drewN (Below.refl _ _) _⟩

end Go.Proofs.Ytlpbelhfpoilpaa

