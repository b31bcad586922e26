import Derived.Test.YtlpbelhfpoilpaaGreatCLendTbAClauses
set_option linter.all false
namespace Go.Proofs.YtlpbelhfpoilpaaGreat
open Go.RowKit Go.Scout

theorem Tryz.infoRows : (Tryz.prog.info? 29).map (fun i => (i.zero, i.size, i.bytes)) = some (some (.slice none 0 0), 1, 24) := by kernel_rfl
theorem Tryz.ne1 : 23 ≠ 29 := by decide
theorem Tryz.ne2 : 3 ≠ 29 := by decide

theorem makeDb (n : Nat) (h : n * 24 ≤ 140737488351232) (w : World) :
    (Instr.makeSlice 27 (.int .i64 ((n : Int) + 2)) (.int .i64 ((n : Int) + 2))).run Tryz.prog w = .ok (.slice (some ⟨w.heap.size, 0, none⟩) (n + 2) (n + 2)) (w.alloc (.cells (fillA [] (n + 2)) 29)) := by
  obtain ⟨i, hi, hz0, hz1, hz2⟩ := info_parts Tryz.infoRows
  have := run_make (P := Tryz.prog) w 27 29 i _ Tryz.underlying27 hi hz0 .i64 .i64 ((n : Int) + 2) ((n : Int) + 2) (by omega) (Int.le_refl _) (by rw [hz2]; omega) (by omega)
  rw [hz1, show ((n : Int) + 2).toNat = n + 2 by omega] at this
  rw [← fillA_made]
  simpa [Value.cells, nilV] using this
theorem makeTab (n : Nat) (h : n * 24 ≤ 140737488351232) (w : World) :
    (Instr.makeSlice 29 (.int .i64 ((n : Int) + 2)) (.int .i64 ((n : Int) + 2))).run Tryz.prog w = .ok (.slice (some ⟨w.heap.size, 0, none⟩) (n + 2) (n + 2)) (w.alloc (.cells (fillA [] (n + 2)) 23)) := by
  obtain ⟨i, hi, hz0, hz1, hz2⟩ := info_parts Tryz.infoInts
  have := run_make (P := Tryz.prog) w 29 23 i _ Tryz.underlying29 hi hz0 .i64 .i64 ((n : Int) + 2) ((n : Int) + 2) (by omega) (Int.le_refl _) (by rw [hz2]; omega) (by omega)
  rw [hz1, show ((n : Int) + 2).toNat = n + 2 by omega] at this
  rw [← fillA_made]
  simpa [Value.cells, nilV] using this

/-- A table more, in the list of the longer lists. -/
theorem push_tab (W : World) (base : Nat) (v : Value) (xs : List Value) (hown : W.ownsRow base 29 1 v xs.length xs) (hl : xs.length * 24 ≤ 140737488351232) (hb : base ≤ W.heap.size) (a : Option Addr) (m c : Nat) (ty : TypeId) :
    ∃ v' w', (Builtin.append_ #[27, 27] ty #[v, .slice (some ⟨W.heap.size, 0, none⟩) 1 1]).run Tryz.prog (W.alloc (.cells #[.slice a m c] 29)) = .ok v' w' ∧
      w'.ownsRow base 29 1 v' (xs.length + 1) (xs ++ [.slice a m c]) ∧ Kept (fun b => v.ownBlock ≠ some b) W w' ∧ (∃ a m c, v' = .slice a m c) ∧ (v'.ownBlock = v.ownBlock ∨ v'.ownBlock = some (W.heap.size + 1)) := by
  obtain ⟨i0, hi, hz0, hz1, hz2⟩ := info_parts Tryz.infoRows
  obtain ⟨v', w', hr, ho, hg, _, hat⟩ := run_append_own_at (P := Tryz.prog) (W.alloc (.cells #[.slice a m c] 29)) base 27 ty 29 i0 (.slice none 0 0) 1 24 Tryz.underlying27 hi hz0 hz1 hz2 rfl (by decide) v xs.length xs (hown.alloc _) ⟨W.heap.size, 0, none⟩ 1 1 [.slice a m c] rfl
    (World.news_of_block (cs := #[.slice a m c]) (t := 29) (fr := (0, 0)) (heap_alloc_new W _)) (fun u hu => by rw [List.mem_singleton] at hu; rw [hu]; rfl) (by unfold maxLen; omega) (by omega) (by rw [World.size_alloc]; omega)
  exact ⟨v', w', hr, ho, (Kept.alloc _ _).trans (Kept.grown hg (fun r e hr => hr e)), ownsRow_slice ho, by rw [World.size_alloc] at hat; exact hat⟩

set_option maxRecDepth 20000 in
set_option maxHeartbeats 16000000 in
theorem tables_any (w00 w : World) (G : Nat) (d : Option Addr) (dcap : Nat) (db : List RowsV) (c0 c1 c2 c3 c4 c5 c6 c7 c8 c9 c10 c11 c12 c13 c14 : Value)
    (hx : DbAt w00 d db) (hsz : db.length * 24 ≤ 140737488351232) (hszt : ∀ i, i < db.length → (db.getD i rz).rs.length * 24 ≤ 140737488351232) (hszr : ∀ i, i < db.length → ∀ j, j < (db.getD i rz).rs.length → ((db.getD i rz).rs.getD j iz).xs.length * 8 ≤ 140737488351232)
    (hb : Below w00.heap.size w00 w) (hG0 : w00.heap.size ≤ G) (hG : GB w G 43 #[c0, c1, c2, c3, c4, c5, c6, c7, c8, c9, c10, c11, c12, c13, c14, .slice none 0 0]) :
    Calls Tryz.prog 15 #[.pointer (some ⟨G, 0, none⟩), .slice d db.length dcap] w fun e w' => e = .returned (.tuple #[]) ∧ ∃ db' v u1 u2 s1 s2 x1 x2, DLent w00 w w' G 43 29 23 3 (fun x y z => #[c0, c1, c2, c3, c4, c5, c6, c7, c8, x, c10, c11, c12, c13, y, z]) db db' v u1 u2 s1 s2 x1 x2 := by
  have hmk := makeDb db.length hsz
  have hl := hx.1
  have hGlt := hG.lt
  have g14 : w.cell? ⟨G, 14, none⟩ = some c14 := hG.cell 14
  have f14 : w.frozen? ⟨G, 14, none⟩ = false := hG.frozen 14
  have HX : Hid _ := hx
  have HST : Hid _ := hszt
  have HSR : Hid _ := hszr
  have HS0 : Hid (TState w00 w ((w.setCell ⟨G, 14, none⟩ (.slice (some ⟨w.heap.size, 0, none⟩) (db.length + 2) (db.length + 2))).alloc (.cells (fillA [] (db.length + 2)) 29)) G 43 29 23 3 db.length (fun z => #[c0, c1, c2, c3, c4, c5, c6, c7, c8, c9, c10, c11, c12, c13, .slice (some ⟨w.heap.size, 0, none⟩) (db.length + 2) (db.length + 2), z]) db [] (.slice none 0 0)) := by
    have hb1 := hb.setCell (p := ⟨G, 14, none⟩) hG0 (.slice (some ⟨w.heap.size, 0, none⟩) (db.length + 2) (db.length + 2))
    refine ⟨hb1.alloc hb1.size _, fun j hj hne => ?_, by simp, ?_, ?_, fun i hi => absurd hi (by simp), World.ownsRow_nil _ _ _ _⟩
    · rw [heap_alloc (by simpa using hj), heap_setCell hne]
    · exact (hG.set 14 (.slice (some ⟨w.heap.size, 0, none⟩) (db.length + 2) (db.length + 2))).of (heap_alloc (by simpa using hGlt))
    · have := heap_alloc_new (w.setCell ⟨G, 14, none⟩ (.slice (some ⟨w.heap.size, 0, none⟩) (db.length + 2) (db.length + 2))) (.cells (fillA [] (db.length + 2)) 29)
      rw [World.size_setCell] at this
      exact this
  have HGLT : Hid _ := hGlt
  clear hx hszt hszr hb hG
  go_enter Tryz.func15, Tryz.ntmps15
  go_wp2
  clear hmk g14 f14
  go_loopw [5] (fun iv wr => ∃ (i : Nat) (db' : List RowsV) (v : Value), iv = .int .i64 i ∧ i ≤ db.length ∧ db'.length = i ∧ Hid (TState w00 w wr G 43 29 23 3 db.length (fun z => #[c0, c1, c2, c3, c4, c5, c6, c7, c8, c9, c10, c11, c12, c13, .slice (some ⟨w.heap.size, 0, none⟩) (db.length + 2) (db.length + 2), z]) db db' v)) (fun iv _ => db.length - (intOf iv).toNat)
  case atStart => exact ⟨0, [], .slice none 0 0, rfl, Nat.zero_le _, rfl, HS0.out⟩
  case round =>
    clear HS0
    obtain ⟨i, db', v, rfl, hil, hdl, HT⟩ := hrel
    by_cases hlt : i < db.length
    · obtain ⟨b, off, rfl, hcs⟩ := CellsAt.get HX.out.2.1 hlt
      have HCI : Hid _ := hcs i hlt
      have hta := HX.out.2.2 i hlt
      have hst := HST.out i hlt
      have HRS : Hid _ := HSR.out i hlt
      have HDE : Hid ((db.getD db'.length rz).rs = (db.getD i rz).rs) := show _ = _ by rw [hdl]
      clear hcs
      generalize db.getD i rz = t at *
      obtain ⟨tad, tcap, rs⟩ := t
      unfold RowsV.val at *
      simp only at *
      have HTA : Hid (RowsAt w00 tad rs) := hta
      have hrl : rs.length ≤ 1152921504606846976 := hta.1
      have hmk := makeTab rs.length hst
      have hci := cell_below HT.out.bel HCI.out
      obtain ⟨wk, hwk⟩ : ∃ wk, wk = wr := ⟨_, rfl⟩
      rw [← hwk] at HT hci ⊢
      clear hwk hta
      go_wp2
      clear hmk hci
      go_loopw [8] (fun jv wr => ∃ (j : Nat) (rs' : List IntsV), jv = .int .i64 j ∧ j ≤ rs.length ∧ rs'.length = j ∧ Hid (Below wk.heap.size wk wr) ∧ wk.heap.size < wr.heap.size ∧ Hid (GB wr wk.heap.size 23 (fillA (rs'.map IntsV.val) (rs.length + 2 - j))) ∧ Hid (∀ k, k < j → LentRow wk.heap.size wr 3 (rs'.getD k iz) (rs.getD k iz).xs)) (fun jv _ => rs.length - (intOf jv).toNat)
      case atStart => exact ⟨0, [], rfl, Nat.zero_le _, rfl, below_alloc _ _, by simp, heap_alloc_new _ _, fun k hk => absurd hk (by omega)⟩
      case round =>
        obtain ⟨j, rs', rfl, hjl, hrl', HBR, hszr, HG5, HLR⟩ := hrel
        have hb1 : Below w00.heap.size w00 wr := HT.out.bel.trans (HBR.out.mono HT.out.bel.size)
        by_cases hjt : j < rs.length
        · obtain ⟨rb, ro, rfl, hrc⟩ := CellsAt.get HTA.out.2.1 hjt
          have hci := cell_below hb1 HCI.out
          have hcj := cell_below hb1 (hrc j hjt)
          have hra := IntsAt.below hb1 (HTA.out.2.2 j hjt)
          have hsz8 := HRS.out j hjt
          clear hrc
          obtain ⟨x, hxx⟩ : ∃ x, x = rs.getD j iz := ⟨_, rfl⟩
          have HXX : Hid _ := hxx
          rw [← hxx] at hcj hra hsz8
          clear hxx
          obtain ⟨xad, xcap, xs⟩ := x
          unfold IntsV.val at hcj
          simp only at hcj hra hsz8
          have hle := lend_any xad xcap xs wr hra hsz8
          have hm0 : rs.length + 2 - j = (rs.length + 2 - (j + 1)) + 1 := by omega
          have hg5 := HG5.out
          rw [hm0] at hg5
          have hg6 : GB (wr.alloc (.cells (lentCells xs) 3)) wk.heap.size 23 _ := hg5.of (heap_alloc hszr)
          have hold : (wr.alloc (.cells (lentCells xs) 3)).cell? ⟨wk.heap.size, j, none⟩ = some (.slice none 0 0) := by
            rw [hg6.cell]
            have := fillA_at (rs'.map IntsV.val) (rs.length + 2 - (j + 1))
            rw [List.length_map, hrl'] at this
            exact this
          have hfz := hg6.frozen j
          have hg7 := hg6.set j (.slice (some ⟨wr.heap.size, 0, none⟩) xs.length (xs.length + 2))
          have hfs := fillA_set (rs'.map IntsV.val) (rs.length + 2 - (j + 1)) (.slice (some ⟨wr.heap.size, 0, none⟩) xs.length (xs.length + 2))
          rw [List.length_map, hrl'] at hfs
          rw [hfs] at hg7
          have HG7 : Hid _ := hg7
          have HB7 : Hid (Below wk.heap.size wk ((wr.alloc (.cells (lentCells xs) 3)).setCell ⟨wk.heap.size, j, none⟩ (.slice (some ⟨wr.heap.size, 0, none⟩) xs.length (xs.length + 2)))) := (HBR.out.alloc HBR.out.size _).setCell (p := ⟨wk.heap.size, j, none⟩) (Nat.le_refl _) _
          have HLN : Hid (∀ k, k < j + 1 → LentRow wk.heap.size ((wr.alloc (.cells (lentCells xs) 3)).setCell ⟨wk.heap.size, j, none⟩ (.slice (some ⟨wr.heap.size, 0, none⟩) xs.length (xs.length + 2))) 3 ((rs' ++ [IntsV.mk (some ⟨wr.heap.size, 0, none⟩) (xs.length + 2) xs]).getD k iz) (rs.getD k iz).xs) := fun k hk => by
            by_cases hkj : k < j
            · have e : (rs' ++ [IntsV.mk (some ⟨wr.heap.size, 0, none⟩) (xs.length + 2) xs]).getD k iz = rs'.getD k iz := by simp only [List.getD]; rw [List.getElem?_append_left (by omega)]
              rw [e]
              exact (HLR.out k hkj).kept fun b hl hb => (heap_setCell (by show b ≠ wk.heap.size; omega)).trans (heap_alloc hb)
            · obtain rfl : k = j := by omega
              have e : (rs' ++ [IntsV.mk (some ⟨wr.heap.size, 0, none⟩) (xs.length + 2) xs]).getD k iz = IntsV.mk (some ⟨wr.heap.size, 0, none⟩) (xs.length + 2) xs := by
                simp only [List.getD]
                rw [List.getElem?_append_right (by omega), hrl', Nat.sub_self]
                rfl
              rw [e, ← HXX.out]
              exact ⟨wr.heap.size, rfl, hszr, GB.of (w := wr.alloc (.cells (lentCells xs) 3)) (heap_alloc_new wr _) (heap_setCell (by show wr.heap.size ≠ wk.heap.size; omega))⟩
          have hjl2 : j < rs.length + 2 := by omega
          have HSW : Hid ((wr.alloc (.cells (lentCells xs) 3)).heap.size = wr.heap.size + 1) := show _ = _ by simp
          clear hg5 hg6 hg7 hfs hm0 HG5 HBR HLR hra
          obtain ⟨wl, hwl⟩ : ∃ wl, wl = wr.alloc (.cells (lentCells xs) 3) := ⟨_, rfl⟩
          rw [← hwl] at hle hold hfz HG7 HB7 HLN HSW
          clear hwl
          go_wp2_with fail
          refine hle.mono ?_
          rintro e w2 ⟨rfl, rfl⟩
          clear hle
          go_wp2
          go_roundw
          case rel => exact ⟨j + 1, rs' ++ [IntsV.mk (some ⟨wr.heap.size, 0, none⟩) (xs.length + 2) xs], by go_num, by omega, by rw [List.length_append, hrl']; rfl, HB7.out, by have := HSW.out; simp; omega, by rw [List.map_append]; exact HG7.out, HLN.out⟩
          case measure => simp [intOf]; omega
        · obtain rfl : j = rs.length := by omega
          -- the two marks behind, then the lists
          have e2 : rs.length + 2 - rs.length = 1 + 1 := by omega
          have hg5 := HG5.out
          rw [e2] at hg5
          have hkT : wk.heap.size < wr.heap.size := hszr
          -- first mark
          obtain ⟨wa, hwa⟩ : ∃ wa, wa = (wr.setCell ⟨wk.heap.size, rs.length, none⟩ (Value.slice (some ⟨wr.heap.size, 0, none⟩) 1 1)).alloc (.cells #[.int .i64 77777] 3) := ⟨_, rfl⟩
          have o1 : wr.cell? ⟨wk.heap.size, rs.length, none⟩ = some (.slice none 0 0) := by
            rw [hg5.cell]
            have := fillA_at (rs'.map IntsV.val) 1
            rw [List.length_map, hrl'] at this
            exact this
          have z1 := hg5.frozen rs.length
          have hga : GB wa wk.heap.size 23 (fillA (rs'.map IntsV.val ++ [Value.slice (some ⟨wr.heap.size, 0, none⟩) 1 1]) 1) := by
            have h1 := hg5.set rs.length (Value.slice (some ⟨wr.heap.size, 0, none⟩) 1 1)
            have h2 := fillA_set (rs'.map IntsV.val) 1 (Value.slice (some ⟨wr.heap.size, 0, none⟩) 1 1)
            rw [List.length_map, hrl'] at h2
            rw [h2] at h1
            rw [hwa]
            exact h1.of (heap_alloc (by simpa using hkT))
          have hba : Below wk.heap.size wk wa := by
            have h1 := HBR.out.setCell (p := ⟨wk.heap.size, rs.length, none⟩) (Nat.le_refl _) (Value.slice (some ⟨wr.heap.size, 0, none⟩) 1 1)
            rw [hwa]
            exact h1.alloc h1.size _
          have hsa : wa.heap.size = wr.heap.size + 1 := by rw [hwa]; simp
          have hia : InkAt wk.heap.size wa 3 (Value.slice (some ⟨wr.heap.size, 0, none⟩) 1 1) := ⟨wr.heap.size, rfl, hkT, by
            have := heap_alloc_new (wr.setCell ⟨wk.heap.size, rs.length, none⟩ (Value.slice (some ⟨wr.heap.size, 0, none⟩) 1 1)) (.cells #[.int .i64 77777] 3)
            rw [World.size_setCell] at this
            rw [hwa]
            exact this⟩
          have hra : ∀ k, k < rs.length → LentRow wk.heap.size wa 3 (rs'.getD k iz) (rs.getD k iz).xs := fun k hk => (HLR.out k hk).kept fun b hl hb => by
            rw [hwa, heap_alloc (by simpa using hb), heap_setCell (by show b ≠ wk.heap.size; omega)]
          have HWA : Hid ((wr.setCell ⟨wk.heap.size, rs.length, none⟩ (Value.slice (some ⟨wr.heap.size, 0, none⟩) 1 1)).alloc (.cells #[.int .i64 77777] 3) = wa) := hwa.symm
          clear hwa
          have hkA : wk.heap.size < wa.heap.size := by omega
          -- second mark
          obtain ⟨wb, hwb⟩ : ∃ wb, wb = (wa.setCell ⟨wk.heap.size, rs.length + 1, none⟩ (Value.slice (some ⟨wa.heap.size, 0, none⟩) 1 1)).alloc (.cells #[.int .i64 77777] 3) := ⟨_, rfl⟩
          have o2 : wa.cell? ⟨wk.heap.size, rs.length + 1, none⟩ = some (.slice none 0 0) := by
            rw [hga.cell]
            have := fillA_at (rs'.map IntsV.val ++ [Value.slice (some ⟨wr.heap.size, 0, none⟩) 1 1]) 0
            rw [List.length_append, List.length_map, hrl'] at this
            exact this
          have z2 := hga.frozen (rs.length + 1)
          have hgb : GB wb wk.heap.size 23 (rs'.map IntsV.val ++ [Value.slice (some ⟨wr.heap.size, 0, none⟩) 1 1, Value.slice (some ⟨wa.heap.size, 0, none⟩) 1 1]).toArray := by
            have h1 := hga.set (rs.length + 1) (Value.slice (some ⟨wa.heap.size, 0, none⟩) 1 1)
            have h2 := fillA_set (rs'.map IntsV.val ++ [Value.slice (some ⟨wr.heap.size, 0, none⟩) 1 1]) 0 (Value.slice (some ⟨wa.heap.size, 0, none⟩) 1 1)
            rw [List.length_append, List.length_map, hrl'] at h2
            have h3 : (fillA (rs'.map IntsV.val ++ [Value.slice (some ⟨wr.heap.size, 0, none⟩) 1 1]) 1).setIfInBounds (rs.length + 1) (Value.slice (some ⟨wa.heap.size, 0, none⟩) 1 1) = (rs'.map IntsV.val ++ [Value.slice (some ⟨wr.heap.size, 0, none⟩) 1 1, Value.slice (some ⟨wa.heap.size, 0, none⟩) 1 1]).toArray := by
              refine h2.trans ?_
              unfold fillA
              simp
            rw [h3] at h1
            rw [hwb]
            exact h1.of (heap_alloc (by simpa using hkA))
          have hbb : Below wk.heap.size wk wb := by
            have h1 := hba.setCell (p := ⟨wk.heap.size, rs.length + 1, none⟩) (Nat.le_refl _) (Value.slice (some ⟨wa.heap.size, 0, none⟩) 1 1)
            rw [hwb]
            exact h1.alloc h1.size _
          have hkb : ∀ b, wk.heap.size < b → b < wa.heap.size → wb.heap[b]? = wa.heap[b]? := fun b hl hb => by rw [hwb, heap_alloc (by simpa using hb), heap_setCell (by show b ≠ wk.heap.size; omega)]
          have hib : InkAt wk.heap.size wb 3 (Value.slice (some ⟨wa.heap.size, 0, none⟩) 1 1) := ⟨wa.heap.size, rfl, hkA, by
            have := heap_alloc_new (wa.setCell ⟨wk.heap.size, rs.length + 1, none⟩ (Value.slice (some ⟨wa.heap.size, 0, none⟩) 1 1)) (.cells #[.int .i64 77777] 3)
            rw [World.size_setCell] at this
            rw [hwb]
            exact this⟩
          have HWB : Hid ((wa.setCell ⟨wk.heap.size, rs.length + 1, none⟩ (Value.slice (some ⟨wa.heap.size, 0, none⟩) 1 1)).alloc (.cells #[.int .i64 77777] 3) = wb) := hwb.symm
          clear hwb
          have hsk := HT.out.siz
          have HLT : Hid (LentTab w.heap.size wb 23 3 ⟨some ⟨wk.heap.size, 0, none⟩, rs.length + 2, rs'⟩ rs wk.heap.size (Value.slice (some ⟨wr.heap.size, 0, none⟩) 1 1) (Value.slice (some ⟨wa.heap.size, 0, none⟩) 1 1)) :=
            ⟨rfl, rfl, hrl', hsk, fun k hk => ((hra k hk).kept hkb).up (by omega), hgb, (hia.kept hkb).up (by omega), hib.up (by omega)⟩
          -- the list of the longer lists
          have hownb : wb.ownsRow (w.heap.size + 1) 29 1 v (db'.map RowsV.full).length (db'.map RowsV.full) := by
            rw [List.length_map]
            exact ownsRow_move HT.out.own (Nat.le_refl _) (fun j _ hj => hbb.block j hj)
          have hbsz := hbb.size
          obtain ⟨v', w5, hr5, ho5, hk5, ⟨va, vm, vc, rfl⟩, hat5⟩ := push_tab wb (w.heap.size + 1) v (db'.map RowsV.full) hownb (by rw [List.length_map]; omega) (by omega) (some ⟨wk.heap.size, 0, none⟩) (rs.length + 2) (rs.length + 2) 27
          rw [List.length_map] at ho5
          have hful : (RowsV.mk (some ⟨wk.heap.size, 0, none⟩) (rs.length + 2) rs').full = Value.slice (some ⟨wk.heap.size, 0, none⟩) (rs.length + 2) (rs.length + 2) := by unfold RowsV.full; simp only; rw [hrl']
          rw [← hful] at ho5
          have hne15 : ∀ x y : Value, (#[c0, c1, c2, c3, c4, c5, c6, c7, c8, c9, c10, c11, c12, c13, Value.slice (some ⟨w.heap.size, 0, none⟩) (db.length + 2) (db.length + 2), x] : Array Value).setIfInBounds 15 y = #[c0, c1, c2, c3, c4, c5, c6, c7, c8, c9, c10, c11, c12, c13, Value.slice (some ⟨w.heap.size, 0, none⟩) (db.length + 2) (db.length + 2), y] := fun _ _ => rfl
          have hlt' := HLT.out
          rw [← hdl] at hlt
          have N := HT.out.next HGLT.out hG0 hlt Tryz.ne1 Tryz.ne2 hne15 hbb (by rw [HDE.out]; exact hlt') ho5 hk5 hat5
          have hval : (RowsV.mk (some ⟨wk.heap.size, 0, none⟩) (rs.length + 2) rs').val = Value.slice (some ⟨wk.heap.size, 0, none⟩) rs.length (rs.length + 2) := by unfold RowsV.val; simp only; rw [hrl']
          rw [hval] at N
          have HN : Hid _ := N
          have hv15 : wb.cell? ⟨G, 15, none⟩ = some v := (hbb.cell (p := ⟨G, 15, none⟩) HT.out.g.lt).trans (HT.out.g.cell 15)
          have hlow : ∀ b, b ≤ w.heap.size → v.ownBlock ≠ some b := fun b hb e => by have := (ownsRow_lt HT.out.own e).1; omega
          have hG5 : GB w5 G 43 _ := HT.out.g.of ((hk5.block G (by have := HT.out.g.lt; omega) (hlow G (by have := HGLT.out; omega))).trans (hbb.block G HT.out.g.lt))
          have g14 : w5.cell? ⟨G, 14, none⟩ = some (Value.slice (some ⟨w.heap.size, 0, none⟩) (db.length + 2) (db.length + 2)) := hG5.cell 14
          have g15 : w5.cell? ⟨G, 15, none⟩ = some v := hG5.cell 15
          have y15 := hG5.frozen 15
          have hD5 : GB w5 w.heap.size 29 _ := HT.out.row.of ((hk5.block w.heap.size (by omega) (hlow _ (Nat.le_refl _))).trans (hbb.block _ hsk))
          have e3 : db.length + 2 - db'.length = (db.length + 1 - db'.length) + 1 := by omega
          rw [e3] at hD5
          have od : w5.cell? ⟨w.heap.size, i, none⟩ = some (.slice none 0 0) := by
            rw [hD5.cell, ← hdl]
            have := fillA_at (db'.map RowsV.val) (db.length + 1 - db'.length)
            rw [List.length_map] at this
            exact this
          have yd := hD5.frozen i
          obtain ⟨va0, vn0, vc0, rfl⟩ := ownsRow_slice HT.out.own
          have hGw : ¬ w.heap.size = G := by have := HGLT.out; omega
          have hGw' : ¬ G = w.heap.size := by have := HGLT.out; omega
          rw [hdl] at HN
          have hdl0 := hdl
          have HF : Hid _ := HN
          clear N hlt' hful hval hne15 ho5 hk5 hat5 hownb hgb hbb hkb hib hga hba hia hra HLR HBR HG5 hg5 hG5 hD5 hlow HTA HRS e2 e3 hb1 HN hsa
          have hgk := HGLT.out
          go_upto_region 12 with fail
          rw [HWA.out]
          clear o1 z1 HWA
          go_upto_region 13 with fail
          rw [HWB.out]
          clear o2 z2 HWB
          go_wp2_with (first | (at_builtin; refine wpList_append_run rfl (.tmp 59) (.tmp 61) 27 rfl (.slice va0 vn0 vc0) (.slice (some ⟨wb.heap.size, 0, none⟩) 1 1) (.slice va vm vc) w5 rfl rfl hr5 ?_))
          clear hr5 hv15
          go_wp2
          go_region
          go_wp2
          go_roundw
          case rel => exact ⟨i + 1, db' ++ [RowsV.mk (some ⟨wk.heap.size, 0, none⟩) (rs.length + 2) rs'], .slice va vm vc, by go_num, by omega, by rw [List.length_append, hdl0]; rfl, HF.out⟩
          case measure => simp [intOf]; omega
    · obtain rfl : i = db.length := by omega
      have h := HT.out
      obtain ⟨va0, vn0, vc0, rfl⟩ := ownsRow_slice h.own
      have hgk := HGLT.out
      have hsk := h.siz
      have g14 : wr.cell? ⟨G, 14, none⟩ = some (.slice (some ⟨w.heap.size, 0, none⟩) (db.length + 2) (db.length + 2)) := h.g.cell 14
      have g9 : wr.cell? ⟨G, 9, none⟩ = some c9 := h.g.cell 9
      have y9 := h.g.frozen 9
      have hrow := h.row
      rw [hdl, show db.length + 2 - db.length = 1 + 1 by omega] at hrow
      have o1 : wr.cell? ⟨w.heap.size, db.length, none⟩ = some (.slice none 0 0) := by
        rw [hrow.cell, ← hdl]
        have := fillA_at (db'.map RowsV.val) 1
        rw [List.length_map] at this
        exact this
      have z1 := hrow.frozen db.length
      have hGw : ¬ w.heap.size = G := by omega
      have hGw' : ¬ G = w.heap.size := by omega
      -- the first pair behind
      obtain ⟨wa, hwa⟩ : ∃ wa, wa = ((wr.setCell ⟨w.heap.size, db.length, none⟩ (.slice (some ⟨wr.heap.size + 1, 0, none⟩) 1 1)).alloc (.cells #[.int .i64 77777] 3)).alloc (.cells #[.slice (some ⟨wr.heap.size, 0, none⟩) 1 1] 23) := ⟨_, rfl⟩
      obtain ⟨wb, hwb⟩ : ∃ wb, wb = ((wa.setCell ⟨w.heap.size, db.length + 1, none⟩ (.slice (some ⟨wa.heap.size + 1, 0, none⟩) 1 1)).alloc (.cells #[.int .i64 77777] 3)).alloc (.cells #[.slice (some ⟨wa.heap.size, 0, none⟩) 1 1] 23) := ⟨_, rfl⟩
      obtain ⟨hsa, pk1, pd1, pr1, pi1, pb1⟩ := TState.pair (x := db.length) (tI := 3) (tR := 23) hsk hwa
      obtain ⟨hsb, pk2, pd2, pr2, pi2, pb2⟩ := TState.pair (x := db.length + 1) (tI := 3) (tR := 23) (bd := w.heap.size) (by omega) hwb
      have hrowa : GB wa w.heap.size 29 (fillA (db'.map RowsV.val ++ [Value.slice (some ⟨wr.heap.size + 1, 0, none⟩) 1 1]) 1) := by
        have h1 := hrow.set db.length (.slice (some ⟨wr.heap.size + 1, 0, none⟩) 1 1)
        have h2 := fillA_set (db'.map RowsV.val) 1 (.slice (some ⟨wr.heap.size + 1, 0, none⟩) 1 1)
        rw [List.length_map, hdl] at h2
        rw [h2] at h1
        exact h1.of pd1
      have hrowb : GB wb w.heap.size 29 (db'.map RowsV.val ++ [Value.slice (some ⟨wr.heap.size + 1, 0, none⟩) 1 1, Value.slice (some ⟨wa.heap.size + 1, 0, none⟩) 1 1]).toArray := by
        have h1 := hrowa.set (db.length + 1) (.slice (some ⟨wa.heap.size + 1, 0, none⟩) 1 1)
        have h2 := fillA_set (db'.map RowsV.val ++ [Value.slice (some ⟨wr.heap.size + 1, 0, none⟩) 1 1]) 0 (.slice (some ⟨wa.heap.size + 1, 0, none⟩) 1 1)
        rw [List.length_append, List.length_map, hdl] at h2
        have h3 : (fillA (db'.map RowsV.val ++ [Value.slice (some ⟨wr.heap.size + 1, 0, none⟩) 1 1]) 1).setIfInBounds (db.length + 1) (.slice (some ⟨wa.heap.size + 1, 0, none⟩) 1 1) = (db'.map RowsV.val ++ [Value.slice (some ⟨wr.heap.size + 1, 0, none⟩) 1 1, Value.slice (some ⟨wa.heap.size + 1, 0, none⟩) 1 1]).toArray := by
          refine h2.trans ?_
          unfold fillA
          simp
        rw [h3] at h1
        exact h1.of pd2
      have hgG : GB wb G 43 _ := h.g.of ((pk2 G (by omega) (by omega)).trans (pk1 G (by omega) (by omega)))
      have hgGa : GB wa G 43 _ := h.g.of (pk1 G (by omega) (by omega))
      have a14 : wa.cell? ⟨G, 14, none⟩ = some (.slice (some ⟨w.heap.size, 0, none⟩) (db.length + 2) (db.length + 2)) := hgGa.cell 14
      have o2 : wa.cell? ⟨w.heap.size, db.length + 1, none⟩ = some (.slice none 0 0) := by
        rw [hrowa.cell]
        have := fillA_at (db'.map RowsV.val ++ [Value.slice (some ⟨wr.heap.size + 1, 0, none⟩) 1 1]) 0
        rw [List.length_append, List.length_map, hdl] at this
        exact this
      have z2 := hrowa.frozen (db.length + 1)
      have b14 : wb.cell? ⟨G, 14, none⟩ = some (.slice (some ⟨w.heap.size, 0, none⟩) (db.length + 2) (db.length + 2)) := hgG.cell 14
      have b9 : wb.cell? ⟨G, 9, none⟩ = some c9 := hgG.cell 9
      have yb9 := hgG.frozen 9
      have hbel : Below w00.heap.size w00 wb := pb2 _ _ (by omega) (pb1 _ _ (by omega) h.bel)
      obtain ⟨wf, hwf⟩ : ∃ wf, wf = wb.setCell ⟨G, 9, none⟩ (.slice (some ⟨w.heap.size, 0, none⟩) db.length (db.length + 2)) := ⟨_, rfl⟩
      have hkf : ∀ b, b ≠ G → wf.heap[b]? = wb.heap[b]? := fun b hb => by rw [hwf, heap_setCell hb]
      have hup : ∀ b, w.heap.size < b → b < wr.heap.size → wf.heap[b]? = wr.heap[b]? := fun b hl hb => by
        rw [hkf b (by omega), pk2 b (by omega) (by omega), pk1 b hb (by omega)]
      have hup2 : ∀ b, w.heap.size < b → b < wa.heap.size → wf.heap[b]? = wa.heap[b]? := fun b hl hb => by
        rw [hkf b (by omega), pk2 b hb (by omega)]
      have hup3 : ∀ b, w.heap.size < b → b < wb.heap.size → wf.heap[b]? = wb.heap[b]? := fun b hl hb => hkf b (by omega)
      have HF : Hid (DLent w00 w wf G 43 29 23 3 (fun x y z => #[c0, c1, c2, c3, c4, c5, c6, c7, c8, x, c10, c11, c12, c13, y, z]) db db' (.slice va0 vn0 vc0) (.slice (some ⟨wr.heap.size + 1, 0, none⟩) 1 1) (.slice (some ⟨wa.heap.size + 1, 0, none⟩) 1 1) (wr.heap.size + 1) (wa.heap.size + 1) (.slice (some ⟨wr.heap.size, 0, none⟩) 1 1) (.slice (some ⟨wa.heap.size, 0, none⟩) 1 1)) := by
        refine ⟨by rw [hwf]; exact hbel.setCell (p := ⟨G, 9, none⟩) hG0 _, fun j hj hne => ?_, by rw [hwf]; simp; omega, hdl, ?_, hrowb.of (hkf _ hGw), fun i hi => ?_, ?_, rfl, rfl, by omega, by omega, pr1.of (hup2 _ (by omega) (by omega)), pr2.of (hup3 _ (by omega) (by omega)), pi1.kept hup2, pi2.kept hup3⟩
        · rw [hkf j hne, pk2 j (by omega) (by omega), pk1 j (by omega) (by omega)]
          exact h.oth j hj hne
        · have := hgG.set 9 (.slice (some ⟨w.heap.size, 0, none⟩) db.length (db.length + 2))
          rw [hwf]
          exact this
        · obtain ⟨T, v1, v2, ht⟩ := h.tab i hi
          exact ⟨T, v1, v2, ht.kept hup⟩
        · exact ownsRow_move h.own (Nat.le_refl _) (fun j hj hl => hup j (by omega) hl)
      have HWA : Hid (((wr.setCell ⟨w.heap.size, db.length, none⟩ (.slice (some ⟨wr.heap.size + 1, 0, none⟩) 1 1)).alloc (.cells #[.int .i64 77777] 3)).alloc (.cells #[.slice (some ⟨wr.heap.size, 0, none⟩) 1 1] 23) = wa) := hwa.symm
      have HWB : Hid (((wa.setCell ⟨w.heap.size, db.length + 1, none⟩ (.slice (some ⟨wa.heap.size + 1, 0, none⟩) 1 1)).alloc (.cells #[.int .i64 77777] 3)).alloc (.cells #[.slice (some ⟨wa.heap.size, 0, none⟩) 1 1] 23) = wb) := hwb.symm
      have HWF : Hid (wb.setCell ⟨G, 9, none⟩ (.slice (some ⟨w.heap.size, 0, none⟩) db.length (db.length + 2)) = wf) := hwf.symm
      have hgw1 : G < wr.heap.size := by omega
      have hgw2 : G < wa.heap.size := by omega
      have hww2 : w.heap.size < wa.heap.size := by omega
      clear h HT hwa hwb hwf hrow hrowa hrowb hgG hgGa hbel hkf hup hup2 hup3 hsa hsb pk1 pd1 pr1 pi1 pb1 pk2 pd2 pr2 pi2 pb2 g9 y9 HX HST HSR
      go_upto_region 16 with fail
      rw [HWA.out]
      clear HWA o1 z1 g14
      go_upto_region 17 with fail
      rw [HWB.out]
      clear HWB o2 z2 a14
      go_wp2
      rw [HWF.out]
      go_end0
      exact ⟨rfl, _, _, _, _, _, _, _, _, HF.out⟩

end Go.Proofs.YtlpbelhfpoilpaaGreat

