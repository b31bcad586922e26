import Derived.Test.YtlpbelhfpoilpaaCMkrG
set_option linter.all false
namespace Go.Proofs.Ytlpbelhfpoilpaa
open Go.RowKit Go.Scout

theorem Try.infoCond : (Try.prog.info? 46).map (fun i => (i.zero, i.size, i.bytes)) = some (some (.agg #[.bool false, .int .i64 0, .int .i64 0, .bool false, .int .i64 0]), 5, 40) := by kernel_rfl
theorem Try.infoClause : (Try.prog.info? 68).map (fun i => (i.zero, i.size, i.bytes)) = some (some (.agg #[.slice none 0 0]), 1, 24) := by kernel_rfl

set_option maxRecDepth 100000 in
set_option maxHeartbeats 8000000 in
theorem query_any (mb : Nat) (lo : Option Addr) (lc : Nat) (l : List Int) (co : Option Addr) (cc : Nat) (ts : List TableD) (W : World) (hm : MakerAt mb lo lc l W) (hl : ∀ x ∈ l, -9223372036854775808 ≤ x ∧ x ≤ 9223372036854775807) (hlo : ∀ a, lo = some a → a.block < W.heap.size)
    (hts : TablesAt W co ts) (hcb : ∀ a, co = some a → a.block ≠ mb) (hcat : catB ts = true) :
    Calls Try.prog 36 #[.pointer (some ⟨mb, 0, none⟩), .agg (caseA (.slice co ts.length cc) qz (.slice none 0 0))] W fun e W' => ∃ q : QueryV, e = .returned (.agg q.cells) ∧ QueryOk ts q ∧ ListsIn W.heap.size q W' ∧ MakerAt mb lo lc l W' ∧ Kept (fun b => b ≠ mb) W W' := by
  obtain ⟨i0, hi, hz0, hz1, hz2⟩ := info_parts Try.infoInt
  obtain ⟨ic, hic, hzc0, hzc1, hzc2⟩ := info_parts Try.infoCond
  obtain ⟨il, hil, hzl0, hzl1, hzl2⟩ := info_parts Try.infoClause
  have hmb := hm.lt
  have hM1 := ((hm.alloc (.cells (caseA (.slice co ts.length cc) qz (.slice none 0 0)) 41)).alloc (.cells qz.cells 26)).alloc (.cells qz.cells 26)
  have hk1 : ∀ s, Kept s W (((W.alloc (.cells (caseA (.slice co ts.length cc) qz (.slice none 0 0)) 41)).alloc (.cells qz.cells 26)).alloc (.cells qz.cells 26)) := fun s => ((Kept.alloc _ _).trans (Kept.alloc _ _)).trans (Kept.alloc _ _)
  have hGc : GB (((W.alloc (.cells (caseA (.slice co ts.length cc) qz (.slice none 0 0)) 41)).alloc (.cells qz.cells 26)).alloc (.cells qz.cells 26)) W.heap.size 41 (caseA (.slice co ts.length cc) qz (.slice none 0 0)) :=
    ((GB.alloc _ _ _).keep (Kept.alloc (s := fun _ => True) _ _) trivial).keep (Kept.alloc (s := fun _ => True) _ _) trivial
  have hGr : GB (((W.alloc (.cells (caseA (.slice co ts.length cc) qz (.slice none 0 0)) 41)).alloc (.cells qz.cells 26)).alloc (.cells qz.cells 26)) (W.heap.size + 1) 26 qz.cells := by
    have := GB.alloc (W.alloc (.cells (caseA (.slice co ts.length cc) qz (.slice none 0 0)) 41)) qz.cells 26
    rw [World.size_alloc] at this
    exact this.keep (Kept.alloc (s := fun _ => True) _ _) trivial
  have hGq : GB (((W.alloc (.cells (caseA (.slice co ts.length cc) qz (.slice none 0 0)) 41)).alloc (.cells qz.cells 26)).alloc (.cells qz.cells 26)) (W.heap.size + 2) 26 qz.cells := by
    have := GB.alloc ((W.alloc (.cells (caseA (.slice co ts.length cc) qz (.slice none 0 0)) 41)).alloc (.cells qz.cells 26)) qz.cells 26
    rwa [World.size_alloc, World.size_alloc] at this
  have hs1 : (((W.alloc (.cells (caseA (.slice co ts.length cc) qz (.slice none 0 0)) 41)).alloc (.cells qz.cells 26)).alloc (.cells qz.cells 26)).heap.size = W.heap.size + 3 := by simp
  obtain ⟨W1, hW1⟩ : ∃ W1, (((W.alloc (.cells (caseA (.slice co ts.length cc) qz (.slice none 0 0)) 41)).alloc (.cells qz.cells 26)).alloc (.cells qz.cells 26)) = W1 := ⟨_, rfl⟩
  rw [hW1] at hM1 hk1 hGc hGr hGq hs1
  have hn1 := next_any mb lo lc l 4 W1 hM1 (by omega) hl
  have HL : Hid _ := hl
  have HLO : Hid _ := hlo
  have HS1 : Hid _ := hs1
  have HW1 : Hid _ := hW1
  have HK1 : Hid _ := hk1
  have HGc : Hid _ := hGc
  have HGr : Hid _ := hGr
  have HGq : Hid _ := hGq
  have HTS : Hid _ := hts
  have HCB : Hid _ := hcb
  have HCAT : Hid _ := hcat
  have htl := hts.1
  have ht1 : 1 ≤ ts.length ∧ ts.length ≤ 8 := catB_len hcat
  clear hl hlo hm hs1 hW1 hk1 hGc hGr hGq hM1 hts hcb hcat
  unfold caseA qz vz IntsV.val
  simp only
  go_enter Try.func36, Try.ntmps36
  go_wp2_with fail
  have hW1 := HW1.out
  unfold caseA qz vz IntsV.val QueryV.cells at hW1
  simp only at hW1
  rw [show (((W.alloc (.cells #[.slice co ts.length cc, .slice none 0 0, .slice none 0 0, .bool false, .slice none 0 0, .slice none 0 0, .slice none 0 0, .slice none 0 0, .slice none 0 0] 41)).alloc (.cells #[.slice none 0 0, .slice none 0 0, .bool false, .slice none 0 0, .slice none 0 0, .slice none 0 0, .slice none 0 0] 26)).alloc (.cells #[.slice none 0 0, .slice none 0 0, .bool false, .slice none 0 0, .slice none 0 0, .slice none 0 0, .slice none 0 0] 26)) = W1 from HW1.out]
  clear hW1
  refine hn1.mono ?_
  rintro e W2 ⟨r1, rfl, hr1, hr1', hM2, hk2⟩
  clear hn1
  obtain ⟨k1, rfl⟩ : ∃ k : Nat, r1 = (k : Int) := ⟨r1.toNat, by omega⟩
  have hs2 := hk2.size
  have hs1 := HS1.out
  have hqm : W.heap.size + 2 ≠ mb := by omega
  have hGr2 := GB.keep HGr.out hk2 (show W.heap.size + 1 ≠ mb by omega)
  have hGc2 := GB.keep HGc.out hk2 (show W.heap.size ≠ mb by omega)
  have hGq2 := GB.keep HGq.out hk2 hqm
  have hkW2 : Kept (fun b => b ≠ mb) W W2 := (HK1.out _).trans hk2
  have hg0 : Growing mb (W.heap.size + 2) lo lc l 3 26 W2 (fun v => #[v, .slice none 0 0, .bool false, .slice none 0 0, .slice none 0 0, .slice none 0 0, .slice none 0 0]) W2 (.slice none 0 0) [] :=
    ⟨hGq2, World.ownsRow_nil _ _ _ _, hM2, Kept.refl _ _⟩
  have c0 : W2.cell? ⟨W.heap.size, 0, none⟩ = some (.slice co ts.length cc) := hGc2.cell 0
  have HG0 : Hid _ := hg0
  have HGc2 : Hid _ := hGc2
  have HGr2 : Hid _ := hGr2
  have HKW2 : Hid _ := hkW2
  have HS2 : Hid (W.heap.size + 3 ≤ W2.heap.size) := show _ ≤ _ by omega
  have HQB : Hid (W.heap.size + 2 < W2.heap.size) := show _ < _ by omega
  have HCBB : Hid (W.heap.size < W2.heap.size) := show _ < _ by omega
  have HLO2 : Hid (∀ a, lo = some a → a.block < W2.heap.size ∧ a.block ≠ W.heap.size + 2) := fun a ha => by have := HLO.out a ha; omega
  clear hg0 hGc2 hGr2 hkW2 hGq2 hk2 hM2 hs1 hs2
  go_wp2
  go_loopw [6] (fun i wr => ∃ (k : Nat) (xs : List Int) (v : Value), i = .int .i64 k ∧ xs.length + k ≤ 4 ∧ 1 ≤ xs.length + k ∧ Hid (allB xs ts.length = true) ∧ Growing mb (W.heap.size + 2) lo lc l 3 26 W2 (fun v => #[v, .slice none 0 0, .bool false, .slice none 0 0, .slice none 0 0, .slice none 0 0, .slice none 0 0]) wr v xs) (fun i _ => (intOf i).toNat)
  case atStart => exact ⟨1 + k1, [], _, congrArg (Value.int .i64) (by omega), by simp; omega, by simp, rfl, HG0.out⟩
  case round =>
    obtain ⟨k, xs, v, rfl, hkm, hk1', hok, hgr⟩ := hrel
    by_cases h0 : 0 < k
    ·
      --DEV l1 begin
      have hgt : ((k : Int) > 0) := by omega
      obtain ⟨va, vn, vc, rfl⟩ := ownsRow_slice hgr.own
      have hqv : wr.cell? ⟨W.heap.size + 1 + 1, 0, none⟩ = some (.slice va vn vc) := hgr.gb.cell 0
      have hcv : wr.cell? ⟨W.heap.size, 0, none⟩ = some (.slice co ts.length cc) := cell_keep c0 hgr.kept (show W.heap.size ≠ mb ∧ W.heap.size ≠ W.heap.size + 2 by omega)
      have hgd : Growing mb (W.heap.size + 2) lo lc l 3 26 W2 (fun v => #[v, .slice none 0 0, .bool false, .slice none 0 0, .slice none 0 0, .slice none 0 0, .slice none 0 0]) wr.drew (.slice va vn vc) xs := hgr.keep (Kept.drewN wr 1) (hgr.mkr.keep (Kept.drewN wr 1)) hqm (by have := HS2.out; omega)
      have hn2 := next_any mb lo lc l (ts.length : Int) wr.drew hgd.mkr (by omega) HL.out
      have HGD : Hid _ := hgd
      clear hgr hgd
      go_wp2
      go_region_law
        ((first
          | (refine step_append_lies _ (by rfl) _ _ _ (by rfl) W2.heap.size 3 i0 (.int .i64 0) 1 8 Try.underlying23 hi hz0 hz1 hz2 rfl (by omega) (.slice va vn vc) xs.length (xs.map (Value.int .i64)) (by rfl) (hG3.own.alloc _)
              ⟨W3.heap.size, 0, none⟩ 1 1 [.int .i64 p] (by rfl) (by rfl) (World.news_of_block (cs := #[.int .i64 p]) (t := 3) (fr := (0, 0)) (heap_alloc_new W3 _)) (by simp [Value.oneCell']) (by omega) (by unfold maxLen; omega) (by omega) (by have := hG3.kept.size; simp; omega) (W3.heap.size + 1) (by simp) ?_; intro gg cap w5 hown5 hgrow5 hat5 hlt5; have hM5 := hG3.more (f := 0) (p := p) (Kept.alloc W3 _) hown5 hgrow5 rfl hqm (by have := HS2.out; omega) (by have := HS2.out; omega) HLO2.out; have hfa5 := hG3.far (Kept.alloc W3 _) hgrow5; have hq5 : w5.cell? ⟨W.heap.size + 1 + 1, 0, none⟩ = some (.slice va vn vc) := cell_keep hq3 hfa5 HQB.out; have hf5 : w5.frozen? ⟨W.heap.size + 1 + 1, 0, none⟩ = false := (hG3.gb.keep hfa5 HQB.out).frozen 0; have hc5 : w5.cell? ⟨W.heap.size, 0, none⟩ = some (.slice co ts.length cc) := cell_keep hc3 hfa5 HCBB.out)
          | (go_simp; go_at_call 34; refine hn2.mono ?_; rintro e W3 ⟨p, rfl, hp0, hp1, hM3, hk3⟩; have hG3 := Growing.keep HGD.out hk3 hM3 hqm (by have := HS2.out; omega); have hq3 := cell_keepN (cell_keep0 hqv (Kept.drewN wr 1)) hk3 hqm; have hc3 := cell_keepN (cell_keep0 hcv (Kept.drewN wr 1)) hk3 (show W.heap.size ≠ mb by omega); have hq3a := cell_keep0 hq3 (Kept.alloc W3 (.cells #[.int .i64 p] 3)))))
      all_goals
        have HM5 : Hid _ := hM5
        have HPR : Hid (0 ≤ p ∧ p < (ts.length : Int)) := ⟨hp0, hp1⟩
        clear hM5 hq5 hf5 hc5 hfa5 hG3 hq3 hc3 hown5 hgrow5 hat5 hk3 hM3 hn2 hqv hcv
        go_wp2
        go_roundw
        case rel => exact ⟨k - 1, xs ++ [p], _, congrArg (Value.int .i64) (show _ = ((k - 1 : Nat) : Int) by omega), by rw [List.length_append, List.length_singleton]; omega, by rw [List.length_append, List.length_singleton]; omega, allB_app hok.out HPR.out.1 HPR.out.2, HM5.out⟩
        case measure => simp [intOf]; omega
      --DEV l1 end
    · have hk0 : k = 0 := by omega
      subst hk0
      obtain ⟨iv, hiv, hivx, hivat, hivb⟩ := rowEl_of_own hgr.own (by omega)
      obtain ⟨iad, icap, ixs⟩ := iv
      simp only at hivx
      subst hivx
      unfold IntsV.val at hiv
      simp only at hiv
      subst hiv
      have hkWr : Kept (fun b => b ≠ mb ∧ b < W.heap.size) W wr := (HKW2.out.mono fun b _ h => h.1).trans (hgr.kept.mono fun b _ h => ⟨h.1, by have := h.2; omega⟩)
      have hGcr : GB wr W.heap.size 41 (caseA (.slice co ts.length cc) qz (.slice none 0 0)) := GB.keep HGc2.out hgr.kept (show W.heap.size ≠ mb ∧ W.heap.size ≠ W.heap.size + 2 by omega)
      have hGrr : GB wr (W.heap.size + 1) 26 qz.cells := GB.keep HGr2.out hgr.kept (show W.heap.size + 1 ≠ mb ∧ W.heap.size + 1 ≠ W.heap.size + 2 by omega)
      have hGqr := hgr.gb
      have q0 : wr.cell? ⟨W.heap.size + 1 + 1, 0, none⟩ = some (.slice iad ixs.length icap) := hGqr.cell 0
      have q1 : wr.cell? ⟨W.heap.size + 1 + 1, 1, none⟩ = some (.slice none 0 0) := hGqr.cell 1
      have q2 : wr.cell? ⟨W.heap.size + 1 + 1, 2, none⟩ = some (.bool false) := hGqr.cell 2
      have q3 : wr.cell? ⟨W.heap.size + 1 + 1, 3, none⟩ = some (.slice none 0 0) := hGqr.cell 3
      have q4 : wr.cell? ⟨W.heap.size + 1 + 1, 4, none⟩ = some (.slice none 0 0) := hGqr.cell 4
      have q5 : wr.cell? ⟨W.heap.size + 1 + 1, 5, none⟩ = some (.slice none 0 0) := hGqr.cell 5
      have q6 : wr.cell? ⟨W.heap.size + 1 + 1, 6, none⟩ = some (.slice none 0 0) := hGqr.cell 6
      have b1 : wr.cell? ⟨W.heap.size, 1, none⟩ = some (.slice none 0 0) := hGcr.cell 1
      have b2 : wr.cell? ⟨W.heap.size, 2, none⟩ = some (.slice none 0 0) := hGcr.cell 2
      have b3 : wr.cell? ⟨W.heap.size, 3, none⟩ = some (.bool false) := hGcr.cell 3
      have b4 : wr.cell? ⟨W.heap.size, 4, none⟩ = some (.slice none 0 0) := hGcr.cell 4
      have b5 : wr.cell? ⟨W.heap.size, 5, none⟩ = some (.slice none 0 0) := hGcr.cell 5
      have b6 : wr.cell? ⟨W.heap.size, 6, none⟩ = some (.slice none 0 0) := hGcr.cell 6
      have b7 : wr.cell? ⟨W.heap.size, 7, none⟩ = some (.slice none 0 0) := hGcr.cell 7
      have b0 : wr.cell? ⟨W.heap.size, 0, none⟩ = some (.slice co ts.length cc) := hGcr.cell 0
      have b8 : wr.cell? ⟨W.heap.size, 8, none⟩ = some (.slice none 0 0) := hGcr.cell 8
      have z1 := hGcr.frozen 1
      have z2 := hGcr.frozen 2
      have z3 := hGcr.frozen 3
      have z4 := hGcr.frozen 4
      have z5 := hGcr.frozen 5
      have z6 := hGcr.frozen 6
      have z7 := hGcr.frozen 7
      have HGqr : Hid _ := hGqr
      have HGcr : Hid _ := hGcr
      have HGrr : Hid _ := hGrr
      have HGR : Hid _ := hgr
      have HKWr : Hid _ := hkWr
      have HIV : Hid _ := hivat
      have HIB : Hid _ := hivb
      clear hGqr hGcr hGrr hgr hkWr hivat hivb
      go_wp2_with fail
      have hkC : Kept (fun b => b ≠ W.heap.size) wr (((((((wr.setCell ⟨W.heap.size, 1, none⟩ (.slice iad ixs.length icap)).setCell ⟨W.heap.size, 2, none⟩ (.slice none 0 0)).setCell ⟨W.heap.size, 3, none⟩ (.bool false)).setCell ⟨W.heap.size, 4, none⟩ (.slice none 0 0)).setCell ⟨W.heap.size, 5, none⟩ (.slice none 0 0)).setCell ⟨W.heap.size, 6, none⟩ (.slice none 0 0)).setCell ⟨W.heap.size, 7, none⟩ (.slice none 0 0)) :=
        ((((((Kept.setCell _ _ _ (fun h => h rfl)).trans (Kept.setCell _ _ _ (fun h => h rfl))).trans (Kept.setCell _ _ _ (fun h => h rfl))).trans (Kept.setCell _ _ _ (fun h => h rfl))).trans (Kept.setCell _ _ _ (fun h => h rfl))).trans (Kept.setCell _ _ _ (fun h => h rfl))).trans (Kept.setCell _ _ _ (fun h => h rfl))
      obtain ⟨W3, hW3⟩ : ∃ W3, (((((((wr.setCell ⟨W.heap.size, 1, none⟩ (.slice iad ixs.length icap)).setCell ⟨W.heap.size, 2, none⟩ (.slice none 0 0)).setCell ⟨W.heap.size, 3, none⟩ (.bool false)).setCell ⟨W.heap.size, 4, none⟩ (.slice none 0 0)).setCell ⟨W.heap.size, 5, none⟩ (.slice none 0 0)).setCell ⟨W.heap.size, 6, none⟩ (.slice none 0 0)).setCell ⟨W.heap.size, 7, none⟩ (.slice none 0 0)) = W3 := ⟨_, rfl⟩
      rw [hW3] at hkC
      rw [hW3]
      clear hW3 q0 q1 q2 q3 q4 q5 q6 b0 b1 b2 b3 b4 b5 b6 b7 b8 z1 z2 z3 z4 z5 z6 z7 c0
      have hkW3 : Kept (fun b => b ≠ mb) W W3 := ((HKWr.out).trans (hkC.mono fun b _ h => by have := h.2; omega)).mono fun b hb h => ⟨h, hb⟩
      have hM3 : MakerAt mb lo lc l W3 := HGR.out.mkr.keepN hkC (by omega) (fun a ha => by have := HLO.out a ha; omega)
      have hGq3 : GB W3 (W.heap.size + 2) 26 (⟨⟨iad, icap, ixs⟩, none, 0, [], false, vz, vz, vz, vz⟩ : QueryV).cells := GB.keep HGqr.out hkC (by omega)
      have hGr3 := GB.keep HGrr.out hkC (show W.heap.size + 1 ≠ W.heap.size by omega)
      have hT3 : TablesAt W3 co ts := TablesAt.keep HTS.out (fun a ha hlt => hkW3.block _ hlt (HCB.out a ha))
      obtain ⟨iv2, hiv2, hivx2, hls2⟩ := listIn_of_own (n := W.heap.size + 3) HGR.out.own (by omega) HS2.out
      have hive : iv2 = ⟨iad, icap, ixs⟩ := by
        obtain ⟨a2, c2, x2⟩ := iv2
        simp only at hivx2
        subst hivx2
        unfold IntsV.val at hiv2
        injection hiv2 with h1 h2 h3
        rw [h1, h3]
      rw [hive] at hls2
      have hL3 : ListsIn (W.heap.size + 3) ⟨⟨iad, icap, ixs⟩, none, 0, [], false, vz, vz, vz, vz⟩ W3 :=
        ⟨hls2.keep hkC (fun b hb => by omega), ⟨⟨by simp, fun i hi => absurd hi (by simp), fun i hi => absurd hi (by simp)⟩, (fun a ha => by cases ha), fun i hi => absurd hi (by simp)⟩, ListIn.nil _ _, ListIn.nil _ _, ListIn.nil _ _, ListIn.nil _ _, fun _ => rfl⟩
      clear hive hiv2 hivx2 hls2
      have hcol := columns_any co cc ts ⟨⟨iad, icap, ixs⟩, none, 0, [], false, vz, vz, vz, vz⟩ (.slice none 0 0) ⟨_, _, _, rfl⟩ W3 hT3 HCAT.out hL3.src.1.1 (by show ixs.length ≤ 5; omega) hok.out
      refine Calls.mono hcol ?_
      rintro e W4 ⟨rfl, hb4⟩
      have hk34 : ∀ s, Kept s W3 W4 := fun s => Kept.of_below hb4 (fun b hb _ => hb)
      have hkW4 := hkW3.trans (hk34 _)
      have hM4 := hM3.keep (hk34 _)
      have hGq4 := hGq3.keep (hk34 (fun _ => True)) trivial
      have hGr4 := hGr3.keep (hk34 (fun _ => True)) trivial
      have hL4 := hL3.keep (hk34 (fun _ => True)) (fun _ _ => trivial)
      have hsz4 : W.heap.size + 3 ≤ W4.heap.size := by have := hb4.size; have := hkC.size; have := HGR.out.kept.size; have := HS2.out; omega
      have hwn : 1 ≤ widthN ts ixs ∧ widthN ts ixs ≤ 20 := widthN_pos HCAT.out hok.out (by omega) (by omega)
      have HCHK : Hid (allB ixs ts.length = true ∧ 1 ≤ ixs.length ∧ ixs.length ≤ 4) := ⟨hok.out, by omega, by omega⟩
      obtain ⟨nn, hnn⟩ : ∃ nn : Nat, widthN ts ixs = (nn : Int) := ⟨(widthN ts ixs).toNat, by omega⟩
      have HNN : Hid _ := hnn
      have hn1b : 1 ≤ nn ∧ nn ≤ 20 := by omega
      simp only at hcol ⊢
      rw [hnn]
      clear hcol hb4 hk34 hkW3 hM3 hGq3 hGr3 hT3 hL3 hkC hwn HGqr HGcr HGrr HGR HKWr HIV HIB hok HG0 HGc2 HGr2 HKW2 hnn
      have hn3 := next_any mb lo lc l 5 W4 hM4 (by omega) HL.out
      have HSZ4 : Hid _ := hsz4
      have HKW4 : Hid _ := hkW4
      have HGq4 : Hid _ := hGq4
      have HGr4 : Hid _ := hGr4
      have HL4 : Hid _ := hL4
      clear hsz4 hkW4 hGq4 hGr4 hL4 hM4
      go_wp2_with fail
      refine hn3.mono ?_
      rintro e W5 ⟨r2, rfl, hr2, hr2', hM5, hk5⟩
      clear hn3
      obtain ⟨k2, rfl⟩ : ∃ k : Nat, r2 = (k : Int) := ⟨r2.toNat, by omega⟩
      have HGr5 : Hid _ := GB.keep HGr4.out hk5 (show W.heap.size + 1 ≠ mb by omega)
      have HL5 : Hid _ := ListsIn.keep HL4.out hk5 (fun b hb => by omega)
      have HKW5 : Hid _ := Kept.trans HKW4.out hk5
      have HS5 : Hid (W.heap.size + 3 ≤ W5.heap.size) := show _ ≤ _ by have := HSZ4.out; have := hk5.size; omega
      have HW0 : Hid (Wheres mb (W.heap.size + 2) lo lc l 68 26 W5 (fun v => #[.slice iad ixs.length icap, v, .bool false, .slice none 0 0, .slice none 0 0, .slice none 0 0, .slice none 0 0]) W5 (.slice none 0 0) []) :=
        ⟨GB.keep HGq4.out hk5 hqm, World.ownsRow_nil _ _ _ _, fun x hx => by simp at hx, hM5, Kept.refl _ _⟩
      have HLO5 : Hid (∀ a, lo = some a → a.block < W5.heap.size ∧ a.block ≠ W.heap.size + 2) := fun a ha => by have := HLO.out a ha; have := HS5.out; omega
      clear hM5 hk5 HGq4 HGr4 HL4 HKW4 HSZ4
      go_wp2
      go_loopw [8] (fun i wr => ∃ (k : Nat) (ls : List ClauseV) (v : Value), i = .int .i64 k ∧ ls.length + k ≤ 4 ∧ Hid (∀ x ∈ ls, ClauseOk nn x) ∧ Wheres mb (W.heap.size + 2) lo lc l 68 26 W5 (fun v => #[.slice iad ixs.length icap, v, .bool false, .slice none 0 0, .slice none 0 0, .slice none 0 0, .slice none 0 0]) wr v ls) (fun i _ => (intOf i).toNat)
      case atStart => exact ⟨k2, [], _, rfl, by simp; omega, (fun x hx => by simp at hx), HW0.out⟩
      case round =>
        obtain ⟨wo, rfl⟩ : ∃ wo, wo = wr := ⟨wr, rfl⟩
        obtain ⟨k, ls, v, rfl, hkm2, hok2, hwh⟩ := hrel
        by_cases h0 : 0 < k
        ·
          --DEV l2 begin
          have hgt : ((k : Int) > 0) := by omega
          have hcd := cond_any mb lo lc l (nn : Int) wo hwh.mkr HL.out (fun a ha => by have := (HLO5.out a ha).1; have := hwh.kept.size; omega) (by omega)
          have HWH : Hid _ := hwh
          clear hwh
          go_wp2_with fail
          refine hcd.mono ?_
          rintro e W6 ⟨c1, rfl, hc1, hM6, hk6⟩
          clear hcd
          have hn4 := next_any mb lo lc l 6 _ (hM6.alloc (.cells c1.arr 46)) (by omega) HL.out
          have HO7 : Hid _ := own_of_cond W6 c1 46
          have HC1 : Hid _ := hc1
          have HK6 : Hid _ := hk6
          have hk67 : Kept (fun b => b ≠ mb) W6 (W6.alloc (.cells c1.arr 46)) := Kept.alloc _ _
          have hmb6 := hM6.lt
          have HMB6 : Hid _ := hmb6
          obtain ⟨W7, hW7⟩ : ∃ W7, W6.alloc (.cells c1.arr 46) = W7 := ⟨_, rfl⟩
          rw [hW7] at hn4 HO7 hk67
          have HK67 : Hid _ := hk67
          obtain ⟨cn1, cn2, cn3, cn4, cn5⟩ := c1
          unfold CondD.arr at hW7 ⊢
          simp only at hW7 ⊢
          clear hc1 hM6 hk6 hk67 hmb6
          go_wp2_with fail
          refine hn4.mono ?_
          rintro e W8 ⟨r3, rfl, hr3, hr3', hM8, hk8⟩
          clear hn4 hW7
          obtain ⟨jn, rfl⟩ : ∃ k : Nat, r3 = (k : Int) := ⟨r3.toNat, by omega⟩
          have hown8 := ownsRow_keep HO7.out hk8 (fun g hg => by cases hg; have := HMB6.out; show W6.heap.size ≠ mb; omega)
          have HK8 : Hid (Kept (fun b => b ≠ mb) W6 W8) := HK67.out.trans hk8
          go_wp2
          go_loopw [9, 10] (fun v2 jv ws => ∃ (j : Nat) (cs : List CondD), jv = .int .i64 j ∧ j ≤ 5 ∧ 1 ≤ cs.length ∧ cs.length + (j - 3) ≤ 3 ∧ Hid (∀ c ∈ cs, condB c nn = true) ∧ ws.ownsRow W6.heap.size 46 5 v2 cs.length (cs.flatMap CondD.vals) ∧ MakerAt mb lo lc l ws ∧ Kept (fun b => b ≠ mb) W6 ws) (fun _ jv _ => (intOf jv).toNat)
          case atStart => exact ⟨jn, [⟨cn1, cn2, cn3, cn4, cn5⟩], rfl, by omega, by simp, by simp; omega, (fun c hc => by rw [List.mem_singleton] at hc; rw [hc]; exact HC1.out), hown8, hM8, HK8.out⟩
          case round =>
            obtain ⟨j, cs, rfl, hj5, hcl1, hclj, hokc, hownc, hMc, hKc⟩ := hrel
            clear hown8 hM8 hk8
            by_cases hj3 : 3 < j
            · have hgt3 : ((j : Int) > 3) := by omega
              have hcd2 := cond_any mb lo lc l (nn : Int) wr hMc HL.out (fun a ha => by have := (HLO5.out a ha).1; have := HWH.out.kept.size; have := HK6.out.size; have := hKc.size; omega) (by omega)
              obtain ⟨va2, vn2, vc2, rfl⟩ := ownsRow_slice hownc
              have HOC : Hid _ := hownc
              clear hownc hMc
              go_wp2_with fail
              refine hcd2.mono ?_
              rintro e Wa ⟨c2, rfl, hc2, hMa, hka⟩
              clear hcd2
              have hownA := ownsRow_keep HOC.out hka (fun g hg => by have := (ownsRow_lt HOC.out hg).1; have := HMB6.out; omega)
              have hKa := hKc.trans hka
              have hsa := hKa.size
              have HC2 : Hid _ := hc2
              have HMa : Hid _ := hMa
              obtain ⟨ca, cb2, cc2, cd, ce⟩ := c2
              unfold CondD.arr
              simp only
              clear hc2 hMa hka HOC
              go_wp2_with (first | (at_builtin; refine wpList_append_own _ rfl _ _ 47 rfl W6.heap.size 46 ic (.agg #[.bool false, .int .i64 0, .int .i64 0, .bool false, .int .i64 0]) 5 40 Try.underlying47 hic hzc0 hzc1 hzc2 rfl (by decide) _ _ _ rfl (hownA.alloc _) ⟨Wa.heap.size, 0, none⟩ 1 1 (⟨ca, cb2, cc2, cd, ce⟩ : CondD).vals rfl rfl ?q1 ?q2 ?q3 ?q4 ?q5 ?_))
              case q1 => exact World.news_of_block (cs := (⟨ca, cb2, cc2, cd, ce⟩ : CondD).arr) (t := 46) (fr := (0, 0)) (heap_alloc_new Wa _)
              case q2 => intro u hu; simp [CondD.vals] at hu; rcases hu with rfl | rfl | rfl | rfl | rfl <;> rfl
              case q3 => unfold maxLen; omega
              case q4 => omega
              case q5 => simp; omega
              intro v' w1 hown1 hgrow1 _
              have hob : ∀ g, (Value.slice va2 vn2 vc2).ownBlock = some g → W6.heap.size ≤ g := fun g hg => (ownsRow_lt hownA hg).1
              have HMb : Hid _ := (MakerAt.alloc HMa.out (.cells (⟨ca, cb2, cc2, cd, ce⟩ : CondD).arr 46)).grown hgrow1 (fun e => by have := hob _ e; have := HMB6.out; omega) (fun a ha e => by have := hob _ e; have := (HLO5.out a ha).1; have := HWH.out.kept.size; have := HK6.out.size; omega)
              have hKb : Kept (fun b => b ≠ mb) W6 w1 := by
                have h1 : Kept (fun b => b ≠ mb) W6 (Wa.alloc (.cells (⟨ca, cb2, cc2, cd, ce⟩ : CondD).arr 46)) := hKa.trans (Kept.alloc _ _)
                exact ((h1.mono (t := fun b => b ≠ mb ∧ b < W6.heap.size) (fun b _ h => h.1)).trans (Kept.grown hgrow1 (fun r e h => by have := hob r e; have := h.2; omega))).mono (fun b hb h => ⟨h, hb⟩)
              have HKb : Hid _ := hKb
              have HO1 : Hid _ := hown1
              clear hown1 hgrow1 hownA hKb hKa
              go_wp2
              go_roundw
              case rel => exact ⟨j - 1, cs ++ [⟨ca, cb2, cc2, cd, ce⟩], congrArg (Value.int .i64) (show _ = ((j - 1 : Nat) : Int) by omega), by omega, by rw [List.length_append, List.length_singleton]; omega, by rw [List.length_append, List.length_singleton]; omega, (fun c hc => by
                rcases List.mem_append.1 hc with hc | hc
                · exact hokc.out c hc
                · rw [List.mem_singleton] at hc; rw [hc]; exact HC2.out), by rw [show (cs ++ [(⟨ca, cb2, cc2, cd, ce⟩ : CondD)]).length = cs.length + 1 from by simp, show (cs ++ [(⟨ca, cb2, cc2, cd, ce⟩ : CondD)]).flatMap CondD.vals = cs.flatMap CondD.vals ++ (⟨ca, cb2, cc2, cd, ce⟩ : CondD).vals from by simp]; exact HO1.out, HMb.out, HKb.out⟩
              case measure => simp [intOf]; omega
            · have hng : ¬ ((j : Int) > 3) := by omega
              obtain ⟨cad, ccap, rfl, hcat2, hcadb⟩ := conds_of_own hownc (by omega)
              have hkws : Kept (fun b => b ≠ mb) wo wr := HK6.out.trans hKc
              have hwh2 := Wheres.keep HWH.out hkws hMc hqm (by have := HS5.out; omega)
              obtain ⟨va2, vn2, vc2, rfl⟩ := ownsRow_slice hwh2.own
              have hqw : wr.cell? ⟨W.heap.size + 1 + 1, 1, none⟩ = some (.slice va2 vn2 vc2) := hwh2.gb.cell 1
              have hownw := hwh2.own
              have hszw := hwh2.kept.size
              have HW2 : Hid _ := hwh2
              have HCA : Hid _ := hcat2
              have HCB2 : Hid (∀ a, cad = some a → W5.heap.size ≤ a.block ∧ a.block < wr.heap.size ∧ (Value.slice va2 vn2 vc2).ownBlock ≠ some a.block) := fun a ha => by
                have h1 := hcadb a ha
                have h2 := HWH.out.kept.size
                have h3 := HK6.out.size
                refine ⟨by omega, h1.2.1, fun e => ?_⟩
                have h4 : (Value.slice va2 vn2 vc2).ownBlock = some a.block := e
                have h5 := (ownsRow_lt HWH.out.own h4).2
                omega
              clear hownc hMc hKc hcat2 hcadb hkws hwh2
              go_wp2_with (first | (at_builtin; refine wpList_append_own_at _ rfl _ _ 24 rfl W5.heap.size 68 il (.agg #[.slice none 0 0]) 1 24 Try.underlying24 hil hzl0 hzl1 hzl2 rfl (by decide) _ _ _ rfl (hownw.alloc _) ⟨wr.heap.size, 0, none⟩ 1 1 [.slice cad cs.length ccap] rfl rfl (World.news_of_block (cs := #[.slice cad cs.length ccap]) (t := 68) (fr := (0, 0)) (heap_alloc_new wr _)) (fun u hu => by rw [List.mem_singleton] at hu; rw [hu]; rfl) (by unfold maxLen; omega) (by omega) (by rw [World.size_alloc]; omega) ?_))
              intro v' w9 hown9 hgrow9 _ hat9
              obtain ⟨va', vn', vc', rfl⟩ := ownsRow_slice hown9
              have HM9 : Hid _ := Wheres.more HW2.out (f := 1) (x := ⟨cad, ccap, cs⟩) HCA.out HCB2.out (Kept.alloc wr _) (by simp) hown9 hgrow9 (by rw [World.size_alloc]; exact hat9) rfl hqm (by have := HS5.out; omega) (by have := HS5.out; omega) HLO5.out
              have hfa9 := Wheres.far HW2.out (Kept.alloc wr _) hgrow9
              have hq9 : w9.cell? ⟨W.heap.size + 1 + 1, 1, none⟩ = some (.slice va2 vn2 vc2) := cell_keep hqw hfa9 (show W.heap.size + 1 + 1 < W5.heap.size by have := HS5.out; omega)
              have hf9 : w9.frozen? ⟨W.heap.size + 1 + 1, 1, none⟩ = false := (GB.keep HW2.out.gb hfa9 (show W.heap.size + 2 < W5.heap.size by have := HS5.out; omega)).frozen 1
              clear hown9 hgrow9 hat9 hownw hfa9 hqw
              go_wp2
              go_roundw
              case rel => exact ⟨k - 1, ls ++ [⟨cad, ccap, cs⟩], _, congrArg (Value.int .i64) (show _ = ((k - 1 : Nat) : Int) by omega), by rw [List.length_append, List.length_singleton]; omega, (fun x hx => by
                rcases List.mem_append.1 hx with hx | hx
                · exact hok2.out x hx
                · rw [List.mem_singleton] at hx; rw [hx]; exact ⟨hcl1, by show cs.length ≤ 3; omega, hokc.out⟩), HM9.out⟩
              case measure => simp [intOf]; omega
          --DEV l2 end
        · have hk0 : k = 0 := by omega
          subst hk0
          obtain ⟨wad, wcap, rfl, hwi, hwnl⟩ := hwh.isIn (n := W.heap.size + 3) (by omega) HS5.out
          have hkWo : Kept (fun b => b ≠ mb) W wo := ((HKW5.out.mono (t := fun b => b ≠ mb ∧ b < W.heap.size) (fun b _ h => h.1)).trans (hwh.kept.mono fun b _ h => ⟨h.1, by have := h.2; omega⟩)).mono (fun b hb h => ⟨h, hb⟩)
          have hL6 : ListsIn (W.heap.size + 3) ⟨⟨iad, icap, ixs⟩, wad, wcap, ls, false, vz, vz, vz, vz⟩ wo := by
            have h5 := ListsIn.keep HL5.out hwh.kept (fun b hb => by omega)
            exact ⟨h5.src, hwi, h5.keys, h5.sums, h5.sel, h5.ord, hwnl⟩
          have hGr6 := GB.keep HGr5.out hwh.kept (show W.heap.size + 1 ≠ mb ∧ W.heap.size + 1 ≠ W.heap.size + 2 by omega)
          have hGq6 := hwh.gb
          have hn5 := next_any mb lo lc l 3 wo hwh.mkr (by omega) HL.out
          have HS6 : Hid (W.heap.size + 3 ≤ wo.heap.size) := show _ ≤ _ by have := HS5.out; have := hwh.kept.size; omega
          have HWOK : Hid (ls.length ≤ 4 ∧ ∀ x ∈ ls, ClauseOk nn x) := ⟨by omega, hok2.out⟩
          have HL6 : Hid _ := hL6
          have HGr6 : Hid _ := hGr6
          have HGq6 : Hid _ := hGq6
          have HK6 : Hid _ := hkWo
          clear hwi hwnl hkWo hL6 hGr6 hGq6 hwh hok2 HW0 HL5 HGr5 HKW5
          go_wp2_with fail
          refine hn5.mono ?_
          rintro e W7 ⟨r5, rfl, hr5, hr5', hM7, hk7⟩
          clear hn5
          obtain ⟨gp, hgp⟩ : ∃ g, (r5 == 1) = g := ⟨_, rfl⟩
          have hGq7 := GB.keep HGq6.out hk7 hqm
          have hGr7 := GB.keep HGr6.out hk7 (show W.heap.size + 1 ≠ mb by omega)
          have hL7 := ListsIn.keep HL6.out hk7 (fun b hb => by omega)
          have hK7 := Kept.trans HK6.out hk7
          have hq72 : W7.cell? ⟨W.heap.size + 1 + 1, 2, none⟩ = some (.bool false) := hGq7.cell 2
          have hf72 : W7.frozen? ⟨W.heap.size + 1 + 1, 2, none⟩ = false := hGq7.frozen 2
          have hk78 : Kept (fun b => b ≠ W.heap.size + 2) W7 (W7.setCell ⟨W.heap.size + 1 + 1, 2, none⟩ (.bool gp)) := Kept.setCell _ _ _ (fun h => h rfl)
          have hGq8 : GB (W7.setCell ⟨W.heap.size + 1 + 1, 2, none⟩ (.bool gp)) (W.heap.size + 2) 26 (⟨⟨iad, icap, ixs⟩, wad, wcap, ls, gp, vz, vz, vz, vz⟩ : QueryV).cells := hGq7.set 2 _
          have hGr8 := hGr7.keep hk78 (by omega)
          have hL8 : ListsIn (W.heap.size + 3) ⟨⟨iad, icap, ixs⟩, wad, wcap, ls, gp, vz, vz, vz, vz⟩ (W7.setCell ⟨W.heap.size + 1 + 1, 2, none⟩ (.bool gp)) := by
            have h8 := hL7.keep hk78 (fun b hb => by omega)
            exact ⟨h8.src, h8.wh, h8.keys, h8.sums, h8.sel, h8.ord, h8.nil⟩
          have hK8 : Kept (fun b => b ≠ mb) W (W7.setCell ⟨W.heap.size + 1 + 1, 2, none⟩ (.bool gp)) := hK7.set_new (by omega) _
          have hM8 : MakerAt mb lo lc l (W7.setCell ⟨W.heap.size + 1 + 1, 2, none⟩ (.bool gp)) := hM7.set _ (by omega) (fun a ha => by have := HLO.out a ha; omega)
          obtain ⟨W8, hW8⟩ : ∃ W8, W7.setCell ⟨W.heap.size + 1 + 1, 2, none⟩ (.bool gp) = W8 := ⟨_, rfl⟩
          have HS8 : Hid (W.heap.size + 3 ≤ W8.heap.size) := show _ ≤ _ by rw [← hW8]; have := HS6.out; have := hk7.size; simp [World.setCell]; omega
          rw [hW8] at hGq8 hGr8 hL8 hK8 hM8
          have hg8 : W8.cell? ⟨W.heap.size + 1 + 1, 2, none⟩ = some (.bool gp) := hGq8.cell 2
          have HGq8 : Hid _ := hGq8
          have HGr8 : Hid _ := hGr8
          have HL8 : Hid _ := hL8
          have HK8 : Hid _ := hK8
          have HM8 : Hid _ := hM8
          clear hGq7 hGr7 hL7 hK7 hk78 hGq8 hGr8 hL8 hK8 hM8 hk7 hM7 HL6 HGr6 HGq6 HK6 HS6
          have FINQ : Hid (∀ (Wx : World) (q : QueryV), GB Wx (W.heap.size + 1) 26 qz.cells → MakerAt mb lo lc l Wx → Kept (fun b => b ≠ mb) W Wx → ListsIn (W.heap.size + 3) q Wx →
              GB (((((((Wx.setCell ⟨W.heap.size + 1, 0, none⟩ q.src.val).setCell ⟨W.heap.size + 1, 1, none⟩ (.slice q.wad q.wh.length q.wcap)).setCell ⟨W.heap.size + 1, 2, none⟩ (.bool q.group)).setCell ⟨W.heap.size + 1, 3, none⟩ q.keys.val).setCell ⟨W.heap.size + 1, 4, none⟩ q.sums.val).setCell ⟨W.heap.size + 1, 5, none⟩ q.sel.val).setCell ⟨W.heap.size + 1, 6, none⟩ q.ord.val) (W.heap.size + 1) 26 q.cells ∧ MakerAt mb lo lc l (((((((Wx.setCell ⟨W.heap.size + 1, 0, none⟩ q.src.val).setCell ⟨W.heap.size + 1, 1, none⟩ (.slice q.wad q.wh.length q.wcap)).setCell ⟨W.heap.size + 1, 2, none⟩ (.bool q.group)).setCell ⟨W.heap.size + 1, 3, none⟩ q.keys.val).setCell ⟨W.heap.size + 1, 4, none⟩ q.sums.val).setCell ⟨W.heap.size + 1, 5, none⟩ q.sel.val).setCell ⟨W.heap.size + 1, 6, none⟩ q.ord.val) ∧ Kept (fun b => b ≠ mb) W (((((((Wx.setCell ⟨W.heap.size + 1, 0, none⟩ q.src.val).setCell ⟨W.heap.size + 1, 1, none⟩ (.slice q.wad q.wh.length q.wcap)).setCell ⟨W.heap.size + 1, 2, none⟩ (.bool q.group)).setCell ⟨W.heap.size + 1, 3, none⟩ q.keys.val).setCell ⟨W.heap.size + 1, 4, none⟩ q.sums.val).setCell ⟨W.heap.size + 1, 5, none⟩ q.sel.val).setCell ⟨W.heap.size + 1, 6, none⟩ q.ord.val) ∧ ListsIn W.heap.size q (((((((Wx.setCell ⟨W.heap.size + 1, 0, none⟩ q.src.val).setCell ⟨W.heap.size + 1, 1, none⟩ (.slice q.wad q.wh.length q.wcap)).setCell ⟨W.heap.size + 1, 2, none⟩ (.bool q.group)).setCell ⟨W.heap.size + 1, 3, none⟩ q.keys.val).setCell ⟨W.heap.size + 1, 4, none⟩ q.sums.val).setCell ⟨W.heap.size + 1, 5, none⟩ q.sel.val).setCell ⟨W.heap.size + 1, 6, none⟩ q.ord.val)) := fun Wx q hG hM hK hLL => by
            have h1 : W.heap.size + 1 ≠ mb := by omega
            have h2 : ∀ a, lo = some a → a.block ≠ W.heap.size + 1 := fun a ha => by have := HLO.out a ha; omega
            have hkk : Kept (fun b => b ≠ W.heap.size + 1) Wx (((((((Wx.setCell ⟨W.heap.size + 1, 0, none⟩ q.src.val).setCell ⟨W.heap.size + 1, 1, none⟩ (.slice q.wad q.wh.length q.wcap)).setCell ⟨W.heap.size + 1, 2, none⟩ (.bool q.group)).setCell ⟨W.heap.size + 1, 3, none⟩ q.keys.val).setCell ⟨W.heap.size + 1, 4, none⟩ q.sums.val).setCell ⟨W.heap.size + 1, 5, none⟩ q.sel.val).setCell ⟨W.heap.size + 1, 6, none⟩ q.ord.val) := ((((((Kept.setCell _ _ _ (fun h => h rfl)).trans (Kept.setCell _ _ _ (fun h => h rfl))).trans (Kept.setCell _ _ _ (fun h => h rfl))).trans (Kept.setCell _ _ _ (fun h => h rfl))).trans (Kept.setCell _ _ _ (fun h => h rfl))).trans (Kept.setCell _ _ _ (fun h => h rfl))).trans (Kept.setCell _ _ _ (fun h => h rfl))
            have hLW := hLL.keep hkk (fun b hb => by omega)
            refine ⟨((((((hG.set 0 _).set 1 _).set 2 _).set 3 _).set 4 _).set 5 _).set 6 _, ((((((hM.set _ h1 h2).set _ h1 h2).set _ h1 h2).set _ h1 h2).set _ h1 h2).set _ h1 h2).set _ h1 h2, ((((((hK.set_new (by omega) _).set_new (by omega) _).set_new (by omega) _).set_new (by omega) _).set_new (by omega) _).set_new (by omega) _).set_new (by omega) _, hLW.lower (by omega)⟩
          cases gp with
          | true =>
            --DEV bt begin
            have hpk := places_any mb lo lc l (nn : Int) 3 W8 HM8.out HL.out (fun a ha => by have := HLO.out a ha; have := HK8.out.size; omega) (by omega) (by omega)
            go_wp2_with fail
            refine hpk.mono ?_
            rintro e Wk ⟨kv, kxs0, rfl, hownk, hka, hkb, hkl, hMk, hkk⟩
            clear hpk
            obtain ⟨ivk, hivk, hivxk, hlik⟩ := listIn_of_own (n := W.heap.size + 3) hownk (by omega) HS8.out
            obtain ⟨kad, kcap, kxs⟩ := ivk
            simp only at hivxk
            subst hivxk
            unfold IntsV.val at hivk
            simp only at hivk
            subst hivk
            have hGqk := GB.keep HGq8.out hkk hqm
            have hGrk := GB.keep HGr8.out hkk (show W.heap.size + 1 ≠ mb by omega)
            have hLk := ListsIn.keep HL8.out hkk (fun b hb => by omega)
            have hKk := Kept.trans HK8.out hkk
            have p3 : Wk.cell? ⟨W.heap.size + 1 + 1, 3, none⟩ = some (.slice none 0 0) := hGqk.cell 3
            have p3f : Wk.frozen? ⟨W.heap.size + 1 + 1, 3, none⟩ = false := hGqk.frozen 3
            have hkks : Kept (fun b => b ≠ W.heap.size + 2) Wk (Wk.setCell ⟨W.heap.size + 1 + 1, 3, none⟩ (.slice kad kxs.length kcap)) := Kept.setCell _ _ _ (fun h => h rfl)
            have hGqs : GB (Wk.setCell ⟨W.heap.size + 1 + 1, 3, none⟩ (.slice kad kxs.length kcap)) (W.heap.size + 2) 26 (⟨⟨iad, icap, ixs⟩, wad, wcap, ls, true, ⟨kad, kcap, kxs⟩, vz, vz, vz⟩ : QueryV).cells := hGqk.set 3 _
            have hGrs := hGrk.keep hkks (by omega)
            have hLs : ListsIn (W.heap.size + 3) (⟨⟨iad, icap, ixs⟩, wad, wcap, ls, true, ⟨kad, kcap, kxs⟩, vz, vz, vz⟩ : QueryV) (Wk.setCell ⟨W.heap.size + 1 + 1, 3, none⟩ (.slice kad kxs.length kcap)) := by
              have h8 := hLk.keep hkks (fun b hb => by omega)
              exact ⟨h8.src, h8.wh, hlik.keep hkks (fun b hb => by omega), h8.sums, h8.sel, h8.ord, h8.nil⟩
            have hKs : Kept (fun b => b ≠ mb) W (Wk.setCell ⟨W.heap.size + 1 + 1, 3, none⟩ (.slice kad kxs.length kcap)) := hKk.set_new (by omega) _
            have hMs : MakerAt mb lo lc l (Wk.setCell ⟨W.heap.size + 1 + 1, 3, none⟩ (.slice kad kxs.length kcap)) := hMk.set _ (by omega) (fun a ha => by have := HLO.out a ha; omega)
            obtain ⟨Ws, hWs⟩ : ∃ Ws, Wk.setCell ⟨W.heap.size + 1 + 1, 3, none⟩ (.slice kad kxs.length kcap) = Ws := ⟨_, rfl⟩
            have HSs : Hid (W.heap.size + 3 ≤ Ws.heap.size) := show _ ≤ _ by rw [← hWs]; have := HS8.out; have := hkk.size; simp [World.setCell]; omega
            rw [hWs] at hGqs hGrs hLs hKs hMs
            have hn6 := next_any mb lo lc l 3 Ws hMs (by omega) HL.out
            have HKOK : Hid (allB kxs nn = true ∧ apartB kxs = true ∧ kxs.length ≤ 3) := ⟨hka, hkb, hkl⟩
            clear hMs hGqk hGrk hLk hKk hkks hkk hMk hka hkb hownk hlik
            go_wp2_with fail
            refine hn6.mono ?_
            rintro e W9 ⟨r6, rfl, hr6, hr6', hM9, hk9⟩
            clear hn6 hWs
            obtain ⟨k6, rfl⟩ : ∃ k : Nat, r6 = (k : Int) := ⟨r6.toNat, by omega⟩
            have HL9 : Hid _ := ListsIn.keep hLs hk9 (fun b hb => by omega)
            have HGr9 : Hid _ := GB.keep hGrs hk9 (show W.heap.size + 1 ≠ mb by omega)
            have HKW9 : Hid _ := Kept.trans hKs hk9
            have HS9 : Hid (W.heap.size + 3 ≤ W9.heap.size) := show _ ≤ _ by have := HSs.out; have := hk9.size; omega
            have HLO9 : Hid (∀ a, lo = some a → a.block < W9.heap.size ∧ a.block ≠ W.heap.size + 2) := fun a ha => by have := HLO.out a ha; have := HS9.out; omega
            have HG9 : Hid (Growing mb (W.heap.size + 2) lo lc l 3 26 W9 (fun v => #[.slice iad ixs.length icap, .slice wad ls.length wcap, .bool true, .slice kad kxs.length kcap, v, .slice none 0 0, .slice none 0 0]) W9 (.slice none 0 0) []) := ⟨GB.keep hGqs hk9 hqm, World.ownsRow_nil _ _ _ _, hM9, Kept.refl _ _⟩
            clear hk9 hM9 HL8 HGr8 HK8 HM8 HGq8 hg8 hGqs hGrs hLs hKs p3 p3f
            go_wp2
            go_loopw [11] (fun i wr => ∃ (k : Nat) (xs : List Int) (v : Value), i = .int .i64 k ∧ xs.length + k ≤ 2 ∧ Hid (allB xs nn = true) ∧ Growing mb (W.heap.size + 2) lo lc l 3 26 W9 (fun v => #[.slice iad ixs.length icap, .slice wad ls.length wcap, .bool true, .slice kad kxs.length kcap, v, .slice none 0 0, .slice none 0 0]) wr v xs) (fun i _ => (intOf i).toNat)
            case atStart => exact ⟨k6, [], _, rfl, by simp; omega, rfl, HG9.out⟩
            case round =>
              obtain ⟨k, xs, v, rfl, hkm3, hok3, hgr⟩ := hrel
              by_cases h03 : 0 < k
              ·
                --DEV l11 begin
                have hgt3 : ((k : Int) > 0) := by omega
                obtain ⟨va, vn, vc, rfl⟩ := ownsRow_slice hgr.own
                have hqv : wr.cell? ⟨W.heap.size + 1 + 1, 4, none⟩ = some (.slice va vn vc) := hgr.gb.cell 4
                have hgd : Growing mb (W.heap.size + 2) lo lc l 3 26 W9 (fun v => #[.slice iad ixs.length icap, .slice wad ls.length wcap, .bool true, .slice kad kxs.length kcap, v, .slice none 0 0, .slice none 0 0]) wr.drew (.slice va vn vc) xs := hgr.keep (Kept.drewN wr 1) (hgr.mkr.keep (Kept.drewN wr 1)) hqm (by have := HS9.out; omega)
                have hn7 := next_any mb lo lc l (nn : Int) wr.drew hgd.mkr (by omega) HL.out
                have HGD : Hid _ := hgd
                clear hgr hgd
                go_wp2
                go_region_law
                  ((first
                    | (refine step_append_lies _ (by rfl) _ _ _ (by rfl) W9.heap.size 3 i0 (.int .i64 0) 1 8 Try.underlying23 hi hz0 hz1 hz2 rfl (by omega) (.slice va vn vc) xs.length (xs.map (Value.int .i64)) (by rfl) (hG3.own.alloc _)
                        ⟨W3.heap.size, 0, none⟩ 1 1 [.int .i64 p] (by rfl) (by rfl) (World.news_of_block (cs := #[.int .i64 p]) (t := 3) (fr := (0, 0)) (heap_alloc_new W3 _)) (by simp [Value.oneCell']) (by omega) (by unfold maxLen; omega) (by omega) (by have := hG3.kept.size; simp; omega) (W3.heap.size + 1) (by simp) ?_; intro gg cap w5 hown5 hgrow5 hat5 hlt5; have hM5 := hG3.more (f := 4) (p := p) (Kept.alloc W3 _) hown5 hgrow5 rfl hqm (by have := HS9.out; omega) (by have := HS9.out; omega) HLO9.out; have hfa5 := hG3.far (Kept.alloc W3 _) hgrow5; have hq5 : w5.cell? ⟨W.heap.size + 1 + 1, 4, none⟩ = some (.slice va vn vc) := cell_keep hq3 hfa5 (show W.heap.size + 1 + 1 < W9.heap.size by have := HS9.out; omega); have hf5 : w5.frozen? ⟨W.heap.size + 1 + 1, 4, none⟩ = false := (hG3.gb.keep hfa5 (show W.heap.size + 2 < W9.heap.size by have := HS9.out; omega)).frozen 4)
                    | (go_simp; go_at_call 34; refine hn7.mono ?_; rintro e W3 ⟨p, rfl, hp0, hp1, hM3, hk3⟩; have hG3 := Growing.keep HGD.out hk3 hM3 hqm (by have := HS9.out; omega); have hq3 := cell_keepN (cell_keep0 hqv (Kept.drewN wr 1)) hk3 hqm; have hq3a := cell_keep0 hq3 (Kept.alloc W3 (.cells #[.int .i64 p] 3)))))
                all_goals
                  have HM5 : Hid _ := hM5
                  have HPR : Hid (0 ≤ p ∧ p < (nn : Int)) := ⟨hp0, hp1⟩
                  clear hM5 hq5 hf5 hfa5 hG3 hq3 hown5 hgrow5 hat5 hk3 hM3 hn7 hqv
                  go_wp2
                  go_roundw
                  case rel => exact ⟨k - 1, xs ++ [p], _, congrArg (Value.int .i64) (show _ = ((k - 1 : Nat) : Int) by omega), by rw [List.length_append, List.length_singleton]; omega, allB_app hok3.out HPR.out.1 HPR.out.2, HM5.out⟩
                  case measure => simp [intOf]; omega
                --DEV l11 end
              · have hk0 : k = 0 := by omega
                subst hk0
                obtain ⟨iv9, hiv9, hivx9, hli9⟩ := listIn_of_own (n := W.heap.size + 3) hgr.own (by omega) HS9.out
                obtain ⟨jad, jcap, jxs⟩ := iv9
                simp only at hivx9
                subst hivx9
                unfold IntsV.val at hiv9
                simp only at hiv9
                subst hiv9
                have hkWr : Kept (fun b => b ≠ mb) W wr := ((HKW9.out.mono (t := fun b => b ≠ mb ∧ b < W.heap.size) (fun b _ h => h.1)).trans (hgr.kept.mono fun b _ h => ⟨h.1, by have := h.2; omega⟩)).mono (fun b hb h => ⟨h, hb⟩)
                have hLr : ListsIn (W.heap.size + 3) (⟨⟨iad, icap, ixs⟩, wad, wcap, ls, true, ⟨kad, kcap, kxs⟩, ⟨jad, jcap, jxs⟩, vz, vz⟩ : QueryV) wr := by
                  have h5 := ListsIn.keep HL9.out hgr.kept (fun b hb => by omega)
                  exact ⟨h5.src, h5.wh, h5.keys, hli9, h5.sel, h5.ord, h5.nil⟩
                have hGrr := GB.keep HGr9.out hgr.kept (show W.heap.size + 1 ≠ mb ∧ W.heap.size + 1 ≠ W.heap.size + 2 by omega)
                have hGqr : GB wr (W.heap.size + 2) 26 (⟨⟨iad, icap, ixs⟩, wad, wcap, ls, true, ⟨kad, kcap, kxs⟩, ⟨jad, jcap, jxs⟩, vz, vz⟩ : QueryV).cells := hgr.gb
                have hMr := hgr.mkr
                have hszr := hgr.kept.size
                clear hgr
                have hkl3 := HKOK.out.2.2
                have hpl := places_any mb lo lc l ((kxs.length : Int) + 1 + (jxs.length : Int)) 2 wr hMr HL.out (fun a ha => by have := HLO.out a ha; have := hkWr.size; omega) (by omega) (by omega)
                have q0 : wr.cell? ⟨W.heap.size + 1 + 1, 0, none⟩ = some (.slice iad ixs.length icap) := GB.cell hGqr 0
                have q1 : wr.cell? ⟨W.heap.size + 1 + 1, 1, none⟩ = some (.slice wad ls.length wcap) := GB.cell hGqr 1
                have q2 : wr.cell? ⟨W.heap.size + 1 + 1, 2, none⟩ = some (.bool true) := GB.cell hGqr 2
                have q3 : wr.cell? ⟨W.heap.size + 1 + 1, 3, none⟩ = some (.slice kad kxs.length kcap) := GB.cell hGqr 3
                have q4 : wr.cell? ⟨W.heap.size + 1 + 1, 4, none⟩ = some (.slice jad jxs.length jcap) := GB.cell hGqr 4
                have q5 : wr.cell? ⟨W.heap.size + 1 + 1, 5, none⟩ = some (.slice none 0 0) := GB.cell hGqr 5
                have q6 : wr.cell? ⟨W.heap.size + 1 + 1, 6, none⟩ = some (.slice none 0 0) := GB.cell hGqr 6
                have HGqr : Hid _ := hGqr
                have HGrr : Hid _ := hGrr
                have HLr : Hid _ := hLr
                have HKWr : Hid _ := hkWr
                clear hGqr hGrr hLr hkWr hMr
                go_wp2_with fail
                refine hpl.mono ?_
                rintro e Wp ⟨ov, oxs0, rfl, hown, hoa, hob, hol, hMp, hkp⟩
                clear hpl q0 q1 q2 q3 q4 q5 q6
                obtain ⟨ivo, hivo, hivxo, hlio⟩ := listIn_of_own (n := W.heap.size + 3) hown (by omega) (by have := HS9.out; omega)
                obtain ⟨oad, ocap, oxs⟩ := ivo
                simp only at hivxo
                subst hivxo
                unfold IntsV.val at hivo
                simp only at hivo
                subst hivo
                have hGqp := GB.keep HGqr.out hkp hqm
                have hGrp := GB.keep HGrr.out hkp (show W.heap.size + 1 ≠ mb by omega)
                have hLp := ListsIn.keep HLr.out hkp (fun b hb => by omega)
                have hKp := Kept.trans HKWr.out hkp
                have p6 : Wp.cell? ⟨W.heap.size + 1 + 1, 6, none⟩ = some (.slice none 0 0) := hGqp.cell 6
                have p6f : Wp.frozen? ⟨W.heap.size + 1 + 1, 6, none⟩ = false := hGqp.frozen 6
                have hkps : Kept (fun b => b ≠ W.heap.size + 2) Wp (Wp.setCell ⟨W.heap.size + 1 + 1, 6, none⟩ (.slice oad oxs.length ocap)) := Kept.setCell _ _ _ (fun h => h rfl)
                have hGqs : GB (Wp.setCell ⟨W.heap.size + 1 + 1, 6, none⟩ (.slice oad oxs.length ocap)) (W.heap.size + 2) 26 (⟨⟨iad, icap, ixs⟩, wad, wcap, ls, true, ⟨kad, kcap, kxs⟩, ⟨jad, jcap, jxs⟩, vz, ⟨oad, ocap, oxs⟩⟩ : QueryV).cells := hGqp.set 6 _
                have hGrs := hGrp.keep hkps (by omega)
                have hLs : ListsIn (W.heap.size + 3) (⟨⟨iad, icap, ixs⟩, wad, wcap, ls, true, ⟨kad, kcap, kxs⟩, ⟨jad, jcap, jxs⟩, vz, ⟨oad, ocap, oxs⟩⟩ : QueryV) (Wp.setCell ⟨W.heap.size + 1 + 1, 6, none⟩ (.slice oad oxs.length ocap)) := by
                  have h8 := hLp.keep hkps (fun b hb => by omega)
                  exact ⟨h8.src, h8.wh, h8.keys, h8.sums, h8.sel, hlio.keep hkps (fun b hb => by omega), h8.nil⟩
                have hKs : Kept (fun b => b ≠ mb) W (Wp.setCell ⟨W.heap.size + 1 + 1, 6, none⟩ (.slice oad oxs.length ocap)) := hKp.set_new (by omega) _
                have hMs : MakerAt mb lo lc l (Wp.setCell ⟨W.heap.size + 1 + 1, 6, none⟩ (.slice oad oxs.length ocap)) := hMp.set _ (by omega) (fun a ha => by have := HLO.out a ha; omega)
                obtain ⟨Wq, hWq⟩ : ∃ Wq, Wp.setCell ⟨W.heap.size + 1 + 1, 6, none⟩ (.slice oad oxs.length ocap) = Wq := ⟨_, rfl⟩
                rw [hWq] at hGqs hGrs hLs hKs hMs
                have qq0 : Wq.cell? ⟨W.heap.size + 1 + 1, 0, none⟩ = some (.slice iad ixs.length icap) := GB.cell hGqs 0
                have qq1 : Wq.cell? ⟨W.heap.size + 1 + 1, 1, none⟩ = some (.slice wad ls.length wcap) := GB.cell hGqs 1
                have qq2 : Wq.cell? ⟨W.heap.size + 1 + 1, 2, none⟩ = some (.bool true) := GB.cell hGqs 2
                have qq3 : Wq.cell? ⟨W.heap.size + 1 + 1, 3, none⟩ = some (.slice kad kxs.length kcap) := GB.cell hGqs 3
                have qq4 : Wq.cell? ⟨W.heap.size + 1 + 1, 4, none⟩ = some (.slice jad jxs.length jcap) := GB.cell hGqs 4
                have qq5 : Wq.cell? ⟨W.heap.size + 1 + 1, 5, none⟩ = some (.slice none 0 0) := GB.cell hGqs 5
                have qq6 : Wq.cell? ⟨W.heap.size + 1 + 1, 6, none⟩ = some (.slice oad oxs.length ocap) := GB.cell hGqs 6
                have rr0 : Wq.cell? ⟨W.heap.size + 1, 0, none⟩ = some (.slice none 0 0) := GB.cell hGrs 0
                have ff0 := GB.frozen hGrs 0
                have rr1 : Wq.cell? ⟨W.heap.size + 1, 1, none⟩ = some (.slice none 0 0) := GB.cell hGrs 1
                have ff1 := GB.frozen hGrs 1
                have rr2 : Wq.cell? ⟨W.heap.size + 1, 2, none⟩ = some (.bool false) := GB.cell hGrs 2
                have ff2 := GB.frozen hGrs 2
                have rr3 : Wq.cell? ⟨W.heap.size + 1, 3, none⟩ = some (.slice none 0 0) := GB.cell hGrs 3
                have ff3 := GB.frozen hGrs 3
                have rr4 : Wq.cell? ⟨W.heap.size + 1, 4, none⟩ = some (.slice none 0 0) := GB.cell hGrs 4
                have ff4 := GB.frozen hGrs 4
                have rr5 : Wq.cell? ⟨W.heap.size + 1, 5, none⟩ = some (.slice none 0 0) := GB.cell hGrs 5
                have ff5 := GB.frozen hGrs 5
                have rr6 : Wq.cell? ⟨W.heap.size + 1, 6, none⟩ = some (.slice none 0 0) := GB.cell hGrs 6
                have ff6 := GB.frozen hGrs 6
                have HF : Hid _ := FINQ.out Wq (⟨⟨iad, icap, ixs⟩, wad, wcap, ls, true, ⟨kad, kcap, kxs⟩, ⟨jad, jcap, jxs⟩, vz, ⟨oad, ocap, oxs⟩⟩ : QueryV) hGrs hMs hKs hLs
                have HQO : Hid (QueryOk ts (⟨⟨iad, icap, ixs⟩, wad, wcap, ls, true, ⟨kad, kcap, kxs⟩, ⟨jad, jcap, jxs⟩, vz, ⟨oad, ocap, oxs⟩⟩ : QueryV)) := ⟨HCHK.out, ⟨HWOK.out.1, fun x hx => by have := HWOK.out.2 x hx; rw [HNN.out]; exact this⟩, .inl ⟨rfl, rfl, HKOK.out.2.2, by show allB kxs (widthN ts ixs) = true; rw [HNN.out]; exact HKOK.out.1, HKOK.out.2.1, by show jxs.length ≤ 2; omega, by show allB jxs (widthN ts ixs) = true; rw [HNN.out]; exact hok3.out, hol, hoa, hob⟩⟩
                clear hGqs hGrs hLs hKs hMs hGqp hGrp hLp hKp hkps hMp hkp FINQ
                go_wp2
                refine bodyPost_ret (results_cell_row rfl _ _ (W.heap.size + 1) 26 (⟨⟨iad, icap, ixs⟩, wad, wcap, ls, true, ⟨kad, kcap, kxs⟩, ⟨jad, jcap, jxs⟩, vz, ⟨oad, ocap, oxs⟩⟩ : QueryV).cells (0, 0) _ rfl HF.out.1 Try.underlying26 rfl (by kernel_rfl)) rfl ?_
                exact ⟨(⟨⟨iad, icap, ixs⟩, wad, wcap, ls, true, ⟨kad, kcap, kxs⟩, ⟨jad, jcap, jxs⟩, vz, ⟨oad, ocap, oxs⟩⟩ : QueryV), rfl, HQO.out, HF.out.2.2.2, HF.out.2.1, HF.out.2.2.1⟩
            --DEV bt end
          | false =>
            --DEV bf begin
            have hn6 := next_any mb lo lc l 4 W8 HM8.out (by omega) HL.out
            go_wp2_with fail
            refine hn6.mono ?_
            rintro e W9 ⟨r6, rfl, hr6, hr6', hM9, hk9⟩
            clear hn6
            obtain ⟨k6, rfl⟩ : ∃ k : Nat, r6 = (k : Int) := ⟨r6.toNat, by omega⟩
            have HL9 : Hid _ := ListsIn.keep HL8.out hk9 (fun b hb => by omega)
            have HGr9 : Hid _ := GB.keep HGr8.out hk9 (show W.heap.size + 1 ≠ mb by omega)
            have HKW9 : Hid _ := Kept.trans HK8.out hk9
            have HS9 : Hid (W.heap.size + 3 ≤ W9.heap.size) := show _ ≤ _ by have := HS8.out; have := hk9.size; omega
            have HLO9 : Hid (∀ a, lo = some a → a.block < W9.heap.size ∧ a.block ≠ W.heap.size + 2) := fun a ha => by have := HLO.out a ha; have := HS9.out; omega
            have HG9 : Hid (Growing mb (W.heap.size + 2) lo lc l 3 26 W9 (fun v => #[.slice iad ixs.length icap, .slice wad ls.length wcap, .bool false, .slice none 0 0, .slice none 0 0, v, .slice none 0 0]) W9 (.slice none 0 0) []) := ⟨GB.keep HGq8.out hk9 hqm, World.ownsRow_nil _ _ _ _, hM9, Kept.refl _ _⟩
            clear hk9 hM9 HL8 HGr8 HK8 HM8 HGq8 hg8
            go_wp2
            go_loopw [12] (fun i wr => ∃ (k : Nat) (xs : List Int) (v : Value), i = .int .i64 k ∧ xs.length + k ≤ 4 ∧ 1 ≤ xs.length + k ∧ Hid (allB xs nn = true) ∧ Growing mb (W.heap.size + 2) lo lc l 3 26 W9 (fun v => #[.slice iad ixs.length icap, .slice wad ls.length wcap, .bool false, .slice none 0 0, .slice none 0 0, v, .slice none 0 0]) wr v xs) (fun i _ => (intOf i).toNat)
            case atStart => exact ⟨1 + k6, [], _, congrArg (Value.int .i64) (by omega), by simp; omega, by simp, rfl, HG9.out⟩
            case round =>
              obtain ⟨k, xs, v, rfl, hkm3, hk13, hok3, hgr⟩ := hrel
              by_cases h03 : 0 < k
              ·
                --DEV l12 begin
                have hgt3 : ((k : Int) > 0) := by omega
                obtain ⟨va, vn, vc, rfl⟩ := ownsRow_slice hgr.own
                have hqv : wr.cell? ⟨W.heap.size + 1 + 1, 5, none⟩ = some (.slice va vn vc) := hgr.gb.cell 5
                have hgd : Growing mb (W.heap.size + 2) lo lc l 3 26 W9 (fun v => #[.slice iad ixs.length icap, .slice wad ls.length wcap, .bool false, .slice none 0 0, .slice none 0 0, v, .slice none 0 0]) wr.drew (.slice va vn vc) xs := hgr.keep (Kept.drewN wr 1) (hgr.mkr.keep (Kept.drewN wr 1)) hqm (by have := HS9.out; omega)
                have hn7 := next_any mb lo lc l (nn : Int) wr.drew hgd.mkr (by omega) HL.out
                have HGD : Hid _ := hgd
                clear hgr hgd
                go_wp2
                go_region_law
                  ((first
                    | (refine step_append_lies _ (by rfl) _ _ _ (by rfl) W9.heap.size 3 i0 (.int .i64 0) 1 8 Try.underlying23 hi hz0 hz1 hz2 rfl (by omega) (.slice va vn vc) xs.length (xs.map (Value.int .i64)) (by rfl) (hG3.own.alloc _)
                        ⟨W3.heap.size, 0, none⟩ 1 1 [.int .i64 p] (by rfl) (by rfl) (World.news_of_block (cs := #[.int .i64 p]) (t := 3) (fr := (0, 0)) (heap_alloc_new W3 _)) (by simp [Value.oneCell']) (by omega) (by unfold maxLen; omega) (by omega) (by have := hG3.kept.size; simp; omega) (W3.heap.size + 1) (by simp) ?_; intro gg cap w5 hown5 hgrow5 hat5 hlt5; have hM5 := hG3.more (f := 5) (p := p) (Kept.alloc W3 _) hown5 hgrow5 rfl hqm (by have := HS9.out; omega) (by have := HS9.out; omega) HLO9.out; have hfa5 := hG3.far (Kept.alloc W3 _) hgrow5; have hq5 : w5.cell? ⟨W.heap.size + 1 + 1, 5, none⟩ = some (.slice va vn vc) := cell_keep hq3 hfa5 (show W.heap.size + 1 + 1 < W9.heap.size by have := HS9.out; omega); have hf5 : w5.frozen? ⟨W.heap.size + 1 + 1, 5, none⟩ = false := (hG3.gb.keep hfa5 (show W.heap.size + 2 < W9.heap.size by have := HS9.out; omega)).frozen 5)
                    | (go_simp; go_at_call 34; refine hn7.mono ?_; rintro e W3 ⟨p, rfl, hp0, hp1, hM3, hk3⟩; have hG3 := Growing.keep HGD.out hk3 hM3 hqm (by have := HS9.out; omega); have hq3 := cell_keepN (cell_keep0 hqv (Kept.drewN wr 1)) hk3 hqm; have hq3a := cell_keep0 hq3 (Kept.alloc W3 (.cells #[.int .i64 p] 3)))))
                all_goals
                  have HM5 : Hid _ := hM5
                  have HPR : Hid (0 ≤ p ∧ p < (nn : Int)) := ⟨hp0, hp1⟩
                  clear hM5 hq5 hf5 hfa5 hG3 hq3 hown5 hgrow5 hat5 hk3 hM3 hn7 hqv
                  go_wp2
                  go_roundw
                  case rel => exact ⟨k - 1, xs ++ [p], _, congrArg (Value.int .i64) (show _ = ((k - 1 : Nat) : Int) by omega), by rw [List.length_append, List.length_singleton]; omega, by rw [List.length_append, List.length_singleton]; omega, allB_app hok3.out HPR.out.1 HPR.out.2, HM5.out⟩
                  case measure => simp [intOf]; omega
                --DEV l12 end
              · have hk0 : k = 0 := by omega
                subst hk0
                obtain ⟨iv9, hiv9, hivx9, hli9⟩ := listIn_of_own (n := W.heap.size + 3) hgr.own (by omega) HS9.out
                obtain ⟨jad, jcap, jxs⟩ := iv9
                simp only at hivx9
                subst hivx9
                unfold IntsV.val at hiv9
                simp only at hiv9
                subst hiv9
                have hkWr : Kept (fun b => b ≠ mb) W wr := ((HKW9.out.mono (t := fun b => b ≠ mb ∧ b < W.heap.size) (fun b _ h => h.1)).trans (hgr.kept.mono fun b _ h => ⟨h.1, by have := h.2; omega⟩)).mono (fun b hb h => ⟨h, hb⟩)
                have hLr : ListsIn (W.heap.size + 3) (⟨⟨iad, icap, ixs⟩, wad, wcap, ls, false, vz, vz, ⟨jad, jcap, jxs⟩, vz⟩ : QueryV) wr := by
                  have h5 := ListsIn.keep HL9.out hgr.kept (fun b hb => by omega)
                  exact ⟨h5.src, h5.wh, h5.keys, h5.sums, hli9, h5.ord, h5.nil⟩
                have hGrr := GB.keep HGr9.out hgr.kept (show W.heap.size + 1 ≠ mb ∧ W.heap.size + 1 ≠ W.heap.size + 2 by omega)
                have hGqr : GB wr (W.heap.size + 2) 26 (⟨⟨iad, icap, ixs⟩, wad, wcap, ls, false, vz, vz, ⟨jad, jcap, jxs⟩, vz⟩ : QueryV).cells := hgr.gb
                have hMr := hgr.mkr
                have hszr := hgr.kept.size
                clear hgr
                have hpl := places_any mb lo lc l (jxs.length : Int) 3 wr hMr HL.out (fun a ha => by have := HLO.out a ha; have := hkWr.size; omega) (by omega) (by omega)
                have q0 : wr.cell? ⟨W.heap.size + 1 + 1, 0, none⟩ = some (.slice iad ixs.length icap) := GB.cell hGqr 0
                have q1 : wr.cell? ⟨W.heap.size + 1 + 1, 1, none⟩ = some (.slice wad ls.length wcap) := GB.cell hGqr 1
                have q2 : wr.cell? ⟨W.heap.size + 1 + 1, 2, none⟩ = some (.bool false) := GB.cell hGqr 2
                have q3 : wr.cell? ⟨W.heap.size + 1 + 1, 3, none⟩ = some (.slice none 0 0) := GB.cell hGqr 3
                have q4 : wr.cell? ⟨W.heap.size + 1 + 1, 4, none⟩ = some (.slice none 0 0) := GB.cell hGqr 4
                have q5 : wr.cell? ⟨W.heap.size + 1 + 1, 5, none⟩ = some (.slice jad jxs.length jcap) := GB.cell hGqr 5
                have q6 : wr.cell? ⟨W.heap.size + 1 + 1, 6, none⟩ = some (.slice none 0 0) := GB.cell hGqr 6
                have HGqr : Hid _ := hGqr
                have HGrr : Hid _ := hGrr
                have HLr : Hid _ := hLr
                have HKWr : Hid _ := hkWr
                clear hGqr hGrr hLr hkWr hMr
                go_wp2_with fail
                refine hpl.mono ?_
                rintro e Wp ⟨ov, oxs0, rfl, hown, hoa, hob, hol, hMp, hkp⟩
                clear hpl q0 q1 q2 q3 q4 q5 q6
                obtain ⟨ivo, hivo, hivxo, hlio⟩ := listIn_of_own (n := W.heap.size + 3) hown (by omega) (by have := HS9.out; omega)
                obtain ⟨oad, ocap, oxs⟩ := ivo
                simp only at hivxo
                subst hivxo
                unfold IntsV.val at hivo
                simp only at hivo
                subst hivo
                have hGqp := GB.keep HGqr.out hkp hqm
                have hGrp := GB.keep HGrr.out hkp (show W.heap.size + 1 ≠ mb by omega)
                have hLp := ListsIn.keep HLr.out hkp (fun b hb => by omega)
                have hKp := Kept.trans HKWr.out hkp
                have p6 : Wp.cell? ⟨W.heap.size + 1 + 1, 6, none⟩ = some (.slice none 0 0) := hGqp.cell 6
                have p6f : Wp.frozen? ⟨W.heap.size + 1 + 1, 6, none⟩ = false := hGqp.frozen 6
                have hkps : Kept (fun b => b ≠ W.heap.size + 2) Wp (Wp.setCell ⟨W.heap.size + 1 + 1, 6, none⟩ (.slice oad oxs.length ocap)) := Kept.setCell _ _ _ (fun h => h rfl)
                have hGqs : GB (Wp.setCell ⟨W.heap.size + 1 + 1, 6, none⟩ (.slice oad oxs.length ocap)) (W.heap.size + 2) 26 (⟨⟨iad, icap, ixs⟩, wad, wcap, ls, false, vz, vz, ⟨jad, jcap, jxs⟩, ⟨oad, ocap, oxs⟩⟩ : QueryV).cells := hGqp.set 6 _
                have hGrs := hGrp.keep hkps (by omega)
                have hLs : ListsIn (W.heap.size + 3) (⟨⟨iad, icap, ixs⟩, wad, wcap, ls, false, vz, vz, ⟨jad, jcap, jxs⟩, ⟨oad, ocap, oxs⟩⟩ : QueryV) (Wp.setCell ⟨W.heap.size + 1 + 1, 6, none⟩ (.slice oad oxs.length ocap)) := by
                  have h8 := hLp.keep hkps (fun b hb => by omega)
                  exact ⟨h8.src, h8.wh, h8.keys, h8.sums, h8.sel, hlio.keep hkps (fun b hb => by omega), h8.nil⟩
                have hKs : Kept (fun b => b ≠ mb) W (Wp.setCell ⟨W.heap.size + 1 + 1, 6, none⟩ (.slice oad oxs.length ocap)) := hKp.set_new (by omega) _
                have hMs : MakerAt mb lo lc l (Wp.setCell ⟨W.heap.size + 1 + 1, 6, none⟩ (.slice oad oxs.length ocap)) := hMp.set _ (by omega) (fun a ha => by have := HLO.out a ha; omega)
                obtain ⟨Wq, hWq⟩ : ∃ Wq, Wp.setCell ⟨W.heap.size + 1 + 1, 6, none⟩ (.slice oad oxs.length ocap) = Wq := ⟨_, rfl⟩
                rw [hWq] at hGqs hGrs hLs hKs hMs
                have qq0 : Wq.cell? ⟨W.heap.size + 1 + 1, 0, none⟩ = some (.slice iad ixs.length icap) := GB.cell hGqs 0
                have qq1 : Wq.cell? ⟨W.heap.size + 1 + 1, 1, none⟩ = some (.slice wad ls.length wcap) := GB.cell hGqs 1
                have qq2 : Wq.cell? ⟨W.heap.size + 1 + 1, 2, none⟩ = some (.bool false) := GB.cell hGqs 2
                have qq3 : Wq.cell? ⟨W.heap.size + 1 + 1, 3, none⟩ = some (.slice none 0 0) := GB.cell hGqs 3
                have qq4 : Wq.cell? ⟨W.heap.size + 1 + 1, 4, none⟩ = some (.slice none 0 0) := GB.cell hGqs 4
                have qq5 : Wq.cell? ⟨W.heap.size + 1 + 1, 5, none⟩ = some (.slice jad jxs.length jcap) := GB.cell hGqs 5
                have qq6 : Wq.cell? ⟨W.heap.size + 1 + 1, 6, none⟩ = some (.slice oad oxs.length ocap) := GB.cell hGqs 6
                have rr0 : Wq.cell? ⟨W.heap.size + 1, 0, none⟩ = some (.slice none 0 0) := GB.cell hGrs 0
                have ff0 := GB.frozen hGrs 0
                have rr1 : Wq.cell? ⟨W.heap.size + 1, 1, none⟩ = some (.slice none 0 0) := GB.cell hGrs 1
                have ff1 := GB.frozen hGrs 1
                have rr2 : Wq.cell? ⟨W.heap.size + 1, 2, none⟩ = some (.bool false) := GB.cell hGrs 2
                have ff2 := GB.frozen hGrs 2
                have rr3 : Wq.cell? ⟨W.heap.size + 1, 3, none⟩ = some (.slice none 0 0) := GB.cell hGrs 3
                have ff3 := GB.frozen hGrs 3
                have rr4 : Wq.cell? ⟨W.heap.size + 1, 4, none⟩ = some (.slice none 0 0) := GB.cell hGrs 4
                have ff4 := GB.frozen hGrs 4
                have rr5 : Wq.cell? ⟨W.heap.size + 1, 5, none⟩ = some (.slice none 0 0) := GB.cell hGrs 5
                have ff5 := GB.frozen hGrs 5
                have rr6 : Wq.cell? ⟨W.heap.size + 1, 6, none⟩ = some (.slice none 0 0) := GB.cell hGrs 6
                have ff6 := GB.frozen hGrs 6
                have HF : Hid _ := FINQ.out Wq (⟨⟨iad, icap, ixs⟩, wad, wcap, ls, false, vz, vz, ⟨jad, jcap, jxs⟩, ⟨oad, ocap, oxs⟩⟩ : QueryV) hGrs hMs hKs hLs
                have HQO : Hid (QueryOk ts (⟨⟨iad, icap, ixs⟩, wad, wcap, ls, false, vz, vz, ⟨jad, jcap, jxs⟩, ⟨oad, ocap, oxs⟩⟩ : QueryV)) := ⟨HCHK.out, ⟨HWOK.out.1, fun x hx => by have := HWOK.out.2 x hx; rw [HNN.out]; exact this⟩, .inr ⟨rfl, rfl, rfl, by show 1 ≤ jxs.length; omega, by show jxs.length ≤ 4; omega, by show allB jxs (widthN ts ixs) = true; rw [HNN.out]; exact hok3.out, hol, hoa, hob⟩⟩
                clear hGqs hGrs hLs hKs hMs hGqp hGrp hLp hKp hkps hMp hkp FINQ
                go_wp2
                refine bodyPost_ret (results_cell_row rfl _ _ (W.heap.size + 1) 26 (⟨⟨iad, icap, ixs⟩, wad, wcap, ls, false, vz, vz, ⟨jad, jcap, jxs⟩, ⟨oad, ocap, oxs⟩⟩ : QueryV).cells (0, 0) _ rfl HF.out.1 Try.underlying26 rfl (by kernel_rfl)) rfl ?_
                exact ⟨(⟨⟨iad, icap, ixs⟩, wad, wcap, ls, false, vz, vz, ⟨jad, jcap, jxs⟩, ⟨oad, ocap, oxs⟩⟩ : QueryV), rfl, HQO.out, HF.out.2.2.2, HF.out.2.1, HF.out.2.2.1⟩
            --DEV bf end

end Go.Proofs.Ytlpbelhfpoilpaa

