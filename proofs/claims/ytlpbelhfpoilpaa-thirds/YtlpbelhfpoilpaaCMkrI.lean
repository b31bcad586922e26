import Derived.Test.YtlpbelhfpoilpaaCMkrHPure3
set_option linter.all false
namespace Go.Proofs.Ytlpbelhfpoilpaa
open Go.RowKit Go.Scout

theorem Try.infoTable : (Try.prog.info? 60).map (fun i => (i.zero, i.size, i.bytes)) = some (some (.agg #[.int .i64 0, .int .i64 0, .int .i64 0, .int .i64 0, .int .i64 0, .int .i64 0]), 6, 48) := by kernel_rfl
theorem Try.infoRows : (Try.prog.info? 53).map (fun i => (i.zero, i.size, i.bytes)) = some (some (.slice none 0 0), 1, 24) := by kernel_rfl

set_option maxRecDepth 100000 in
set_option maxHeartbeats 8000000 in
theorem made_any (lo : Option Addr) (lc : Nat) (l : List Int) (W : World) (hx : IntsAt W lo l) (hl : ∀ x ∈ l, -9223372036854775808 ≤ x ∧ x ≤ 9223372036854775807) (hlo : ∀ a, lo = some a → a.block < W.heap.size) :
    Calls Try.prog 11 #[.slice lo l.length lc] W fun e W' => ∃ (ts : List TableD) (q : QueryV) (db : List RowsV) (co d : Option Addr) (cc dc : Nat), e = .returned (.agg (caseA (.slice co ts.length cc) q (.slice d db.length dc))) ∧ CaseOk ts q db ∧
      TablesAt W' co ts ∧ (∀ a, co = some a → W.heap.size ≤ a.block) ∧ ts.length ≤ cc ∧ ListsIn W.heap.size q W' ∧ DbHad W' d db ∧ Below W.heap.size W W' := by
  obtain ⟨it, hit, hzt0, hzt1, hzt2⟩ := info_parts Try.infoTable
  obtain ⟨i0, hi, hz0, hz1, hz2⟩ := info_parts Try.infoInt
  obtain ⟨ir, hir, hzr0, hzr1, hzr2⟩ := info_parts Try.infoInts
  obtain ⟨iw, hiw, hzw0, hzw1, hzw2⟩ := info_parts Try.infoRows
  have hll := hx.1
  have hk1 : ∀ s, Kept s W (((W.alloc (.cells (caseA (.slice none 0 0) qz (.slice none 0 0)) 41)).alloc (.cells #[.slice lo l.length lc, .int .i64 0] 80)).alloc (.cells (caseA (.slice none 0 0) qz (.slice none 0 0)) 41)) := fun s => ((Kept.alloc _ _).trans (Kept.alloc _ _)).trans (Kept.alloc _ _)
  have hGr : GB (((W.alloc (.cells (caseA (.slice none 0 0) qz (.slice none 0 0)) 41)).alloc (.cells #[.slice lo l.length lc, .int .i64 0] 80)).alloc (.cells (caseA (.slice none 0 0) qz (.slice none 0 0)) 41)) W.heap.size 41 (caseA (.slice none 0 0) qz (.slice none 0 0)) :=
    ((GB.alloc _ _ _).keep (Kept.alloc (s := fun _ => True) _ _) trivial).keep (Kept.alloc (s := fun _ => True) _ _) trivial
  have hGm : GB (((W.alloc (.cells (caseA (.slice none 0 0) qz (.slice none 0 0)) 41)).alloc (.cells #[.slice lo l.length lc, .int .i64 0] 80)).alloc (.cells (caseA (.slice none 0 0) qz (.slice none 0 0)) 41)) (W.heap.size + 1) 80 #[.slice lo l.length lc, .int .i64 0] := by
    have := GB.alloc (W.alloc (.cells (caseA (.slice none 0 0) qz (.slice none 0 0)) 41)) #[.slice lo l.length lc, .int .i64 0] 80
    rw [World.size_alloc] at this
    exact this.keep (Kept.alloc (s := fun _ => True) _ _) trivial
  have hGc : GB (((W.alloc (.cells (caseA (.slice none 0 0) qz (.slice none 0 0)) 41)).alloc (.cells #[.slice lo l.length lc, .int .i64 0] 80)).alloc (.cells (caseA (.slice none 0 0) qz (.slice none 0 0)) 41)) (W.heap.size + 2) 41 (caseA (.slice none 0 0) qz (.slice none 0 0)) := by
    have := GB.alloc ((W.alloc (.cells (caseA (.slice none 0 0) qz (.slice none 0 0)) 41)).alloc (.cells #[.slice lo l.length lc, .int .i64 0] 80)) (caseA (.slice none 0 0) qz (.slice none 0 0)) 41
    rwa [World.size_alloc, World.size_alloc] at this
  have hs1 : (((W.alloc (.cells (caseA (.slice none 0 0) qz (.slice none 0 0)) 41)).alloc (.cells #[.slice lo l.length lc, .int .i64 0] 80)).alloc (.cells (caseA (.slice none 0 0) qz (.slice none 0 0)) 41)).heap.size = W.heap.size + 3 := by simp
  obtain ⟨W1, hW1⟩ : ∃ W1, (((W.alloc (.cells (caseA (.slice none 0 0) qz (.slice none 0 0)) 41)).alloc (.cells #[.slice lo l.length lc, .int .i64 0] 80)).alloc (.cells (caseA (.slice none 0 0) qz (.slice none 0 0)) 41)) = W1 := ⟨_, rfl⟩
  rw [hW1] at hk1 hGr hGm hGc hs1
  have hM1 : MakerAt (W.heap.size + 1) lo lc l W1 := ⟨⟨0, Nat.zero_le _, hGm.cell 1⟩, hGm.cell 0, hGm.frozen 1, IntsAt.keep hx (fun a ha hlt => (hk1 (fun _ => True)).block _ hlt trivial), fun a ha => by have := hlo a ha; omega⟩
  have hn1 := next_any (W.heap.size + 1) lo lc l 3 W1 hM1 (by omega) hl
  have HL : Hid _ := hl
  have HLO : Hid _ := hlo
  have HS1 : Hid _ := hs1
  have HW1 : Hid _ := hW1
  have HK1 : Hid _ := hk1
  have HGr : Hid _ := hGr
  have HGc : Hid _ := hGc
  clear hl hlo hs1 hW1 hk1 hGc hGr hGm hM1 hx
  go_enter Try.func11, Try.ntmps11
  go_wp2_with fail
  rw [show (((W.alloc (.cells #[.slice none 0 0, .slice none 0 0, .slice none 0 0, .bool false, .slice none 0 0, .slice none 0 0, .slice none 0 0, .slice none 0 0, .slice none 0 0] 41)).alloc (.cells #[.slice lo l.length lc, .int .i64 0] 80)).alloc (.cells #[.slice none 0 0, .slice none 0 0, .slice none 0 0, .bool false, .slice none 0 0, .slice none 0 0, .slice none 0 0, .slice none 0 0, .slice none 0 0] 41)) = W1 from HW1.out]
  refine hn1.mono ?_
  rintro e W2 ⟨r1, rfl, hr1, hr1', hM2, hk2⟩
  clear hn1
  obtain ⟨k1, rfl⟩ : ∃ k : Nat, r1 = (k : Int) := ⟨r1.toNat, by omega⟩
  have hs1 := HS1.out
  have hcm : W.heap.size + 2 ≠ W.heap.size + 1 := by omega
  have HCM : Hid _ := hcm
  have HGr2 : Hid _ := GB.keep HGr.out hk2 (show W.heap.size ≠ W.heap.size + 1 by omega)
  have HKW2 : Hid (Kept (fun _ => True) W W2) := ((HK1.out (fun _ => True)).trans' (hk2.mono (t := fun b => b ≠ W.heap.size + 1) (fun b _ h => h)) (fun b hb _ => by omega))
  have HS2 : Hid (W.heap.size + 3 ≤ W2.heap.size) := show _ ≤ _ by have := hk2.size; omega
  have HLO2 : Hid (∀ a, lo = some a → a.block < W2.heap.size ∧ a.block ≠ W.heap.size + 2) := fun a ha => by have := HLO.out a ha; have := HS2.out; omega
  have HT0 : Hid (Tabs (W.heap.size + 1) (W.heap.size + 2) lo lc l 60 41 W2 (fun v => caseA v qz (.slice none 0 0)) W2 (.slice none 0 0) []) := ⟨GB.keep HGc.out hk2 hcm, World.ownsRow_nil _ _ _ _, hM2, Kept.refl _ _⟩
  clear hM2 hk2 HK1 HGr HGc HW1 hs1 hcm
  go_wp2
  go_loopw [5] (fun i wr => ∃ (k : Nat) (ts : List TableD) (v : Value), i = .int .i64 k ∧ ts.length + k ≤ 3 ∧ 1 ≤ ts.length + k ∧ Hid (∀ t ∈ ts, TabOk t t.cols.toNat) ∧ Tabs (W.heap.size + 1) (W.heap.size + 2) lo lc l 60 41 W2 (fun v => caseA v qz (.slice none 0 0)) wr v ts) (fun i _ => (intOf i).toNat)
  case atStart => exact ⟨1 + k1, [], _, congrArg (Value.int .i64) (by omega), by simp; omega, by simp, (fun t ht => by simp at ht), HT0.out⟩
  case round =>
    obtain ⟨k, ts, v, rfl, hkm, hk1', hok, htb⟩ := hrel
    by_cases h0 : 0 < k
    ·
      --DEV m1 begin
      have hgt : ((k : Int) > 0) := by omega
      have htab := table_any (W.heap.size + 1) lo lc l wr htb.mkr HL.out (fun a ha => by have := (HLO2.out a ha).1; have := htb.kept.size; omega)
      have HTB : Hid _ := htb
      clear htb
      go_wp2_with fail
      refine htab.mono ?_
      rintro e W3 ⟨t, rfl, hto, hM3, hk3⟩
      clear htab
      have htb3 := Tabs.keep HTB.out hk3 hM3 HCM.out (by have := HS2.out; omega)
      obtain ⟨va, vn, vc, rfl⟩ := ownsRow_slice htb3.own
      have hka : ∀ s, Kept s W3 (W3.alloc (.cells t.vals 60)) := fun s => Kept.alloc _ _
      have htb4 := Tabs.keep htb3 (hka _) (hM3.alloc (.cells t.vals 60)) HCM.out (by have := HS2.out; omega)
      have hcv : (W3.alloc (.cells t.vals 60)).cell? ⟨W.heap.size + 1 + 1, 0, none⟩ = some (.slice va vn vc) := htb4.gb.cell 0
      have hown4 := htb4.own
      have hsz4 := htb3.kept.size
      have HT4 : Hid _ := htb4
      have HTO : Hid _ := hto
      obtain ⟨t0, t1, t2, t3, t4, t5⟩ := t
      unfold TableD.vals at *
      simp only at *
      have HW4 : Hid (∃ W4, W3.alloc (.cells #[.int .i64 t0, .int .i64 t1, .int .i64 t2, .int .i64 t3, .int .i64 t4, .int .i64 t5] 60) = W4) := ⟨_, rfl⟩
      clear hM3 hk3 htb3 htb4 hto hka
      go_wp2_with (first | (at_builtin; refine wpList_append_own _ rfl _ _ 22 rfl W2.heap.size 60 it (.agg #[.int .i64 0, .int .i64 0, .int .i64 0, .int .i64 0, .int .i64 0, .int .i64 0]) 6 48 Try.underlying22 hit hzt0 hzt1 hzt2 rfl (by decide) _ _ _ rfl (hown4.alloc _) ⟨W3.heap.size + 1, 0, none⟩ 1 1 (⟨t0, t1, t2, t3, t4, t5⟩ : TableD).list rfl rfl ?q1 ?q2 ?q3 ?q4 ?q5 ?_))
      case q1 =>
        have hn := heap_alloc_new (W3.alloc (.cells #[.int .i64 t0, .int .i64 t1, .int .i64 t2, .int .i64 t3, .int .i64 t4, .int .i64 t5] 60)) (.cells #[.int .i64 t0, .int .i64 t1, .int .i64 t2, .int .i64 t3, .int .i64 t4, .int .i64 t5] 60)
        rw [World.size_alloc] at hn
        exact World.news_of_block (cs := #[.int .i64 t0, .int .i64 t1, .int .i64 t2, .int .i64 t3, .int .i64 t4, .int .i64 t5]) (t := 60) (fr := (0, 0)) hn
      case q2 => intro u hu; simp [TableD.list] at hu; rcases hu with rfl | rfl | rfl | rfl | rfl | rfl <;> rfl
      case q3 => unfold maxLen; omega
      case q4 => omega
      case q5 => simp; omega
      intro v' w5 hown5 hgrow5 _
      obtain ⟨va', vn', vc', rfl⟩ := ownsRow_slice hown5
      have M := Tabs.more HT4.out (f := 0) (t := ⟨t0, t1, t2, t3, t4, t5⟩) (Kept.alloc _ _) hown5 hgrow5 rfl HCM.out (by have := HS2.out; omega) (by have := HS2.out; omega) HLO2.out
      have hc5 : w5.cell? ⟨W.heap.size + 1 + 1, 0, none⟩ = some (.slice va vn vc) := cell_keep hcv M.2 (show W.heap.size + 1 + 1 < W2.heap.size by have := HS2.out; omega)
      have hf5 : w5.frozen? ⟨W.heap.size + 1 + 1, 0, none⟩ = false := (GB.keep HT4.out.gb M.2 (show W.heap.size + 2 < W2.heap.size by have := HS2.out; omega)).frozen 0
      have HM5 : Hid _ := M.1
      clear M hown5 hgrow5 hown4 hcv
      go_wp2
      go_roundw
      case rel => exact ⟨k - 1, ts ++ [⟨t0, t1, t2, t3, t4, t5⟩], _, congrArg (Value.int .i64) (show _ = ((k - 1 : Nat) : Int) by omega), by rw [List.length_append, List.length_singleton]; omega, by rw [List.length_append, List.length_singleton]; omega, (fun t ht => by
        rcases List.mem_append.1 ht with ht | ht
        · exact hok.out t ht
        · rw [List.mem_singleton] at ht; rw [ht]; exact HTO.out), HM5.out⟩
      case measure => simp [intOf]; omega
      --DEV m1 end
    · have hk0 : k = 0 := by omega
      subst hk0
      rw [show (((0 : Nat) : Int)) = (0 : Int) from rfl]
      obtain ⟨co, cc, rfl, htat, hcob⟩ := tables_of_own htb.own (by omega)
      have hccl : ts.length ≤ cc := by
        rcases htb.own.2 with ⟨hv, h0⟩ | ⟨g, cap, cur, hv, _, _, hc, _⟩
        · omega
        · injection hv with h1 h2 h3; omega
      have hcat := cat_of_tabs (by omega) (by omega) hok.out
      have hqy := query_any (W.heap.size + 1) lo lc l co cc ts wr htb.mkr HL.out (fun a ha => by have := (HLO2.out a ha).1; have := htb.kept.size; omega) htat (fun a ha => by have := (hcob a ha).1; have := HS2.out; omega) hcat
      have hGc := htb.gb
      have HGc : Hid _ := hGc
      have HTA : Hid _ := htat
      have HCO : Hid (∀ a, co = some a → W2.heap.size ≤ a.block ∧ a.block < wr.heap.size) := hcob
      have HKr : Hid (Kept (fun b => b ≠ W.heap.size + 1 ∧ b ≠ W.heap.size + 2) W2 wr) := htb.kept
      have HTOK : Hid (1 ≤ ts.length ∧ ts.length ≤ 3 ∧ ∀ t ∈ ts, TabOk t t.cols.toNat) := ⟨by omega, by omega, hok.out⟩
      have HCAT : Hid _ := hcat
      have HGr3 : Hid _ := GB.keep HGr2.out htb.kept (show W.heap.size ≠ W.heap.size + 1 ∧ W.heap.size ≠ W.heap.size + 2 by omega)
      have hszr := htb.kept.size
      have HCCL : Hid _ := hccl
      have b0 : wr.cell? ⟨W.heap.size + 1 + 1, 0, none⟩ = some (.slice co ts.length cc) := hGc.cell 0
      have b1 : wr.cell? ⟨W.heap.size + 1 + 1, 1, none⟩ = some (.slice none 0 0) := hGc.cell 1
      have b2 : wr.cell? ⟨W.heap.size + 1 + 1, 2, none⟩ = some (.slice none 0 0) := hGc.cell 2
      have b3 : wr.cell? ⟨W.heap.size + 1 + 1, 3, none⟩ = some (.bool false) := hGc.cell 3
      have b4 : wr.cell? ⟨W.heap.size + 1 + 1, 4, none⟩ = some (.slice none 0 0) := hGc.cell 4
      have b5 : wr.cell? ⟨W.heap.size + 1 + 1, 5, none⟩ = some (.slice none 0 0) := hGc.cell 5
      have b6 : wr.cell? ⟨W.heap.size + 1 + 1, 6, none⟩ = some (.slice none 0 0) := hGc.cell 6
      have b7 : wr.cell? ⟨W.heap.size + 1 + 1, 7, none⟩ = some (.slice none 0 0) := hGc.cell 7
      have b8 : wr.cell? ⟨W.heap.size + 1 + 1, 8, none⟩ = some (.slice none 0 0) := hGc.cell 8
      clear hGc htat hcob htb hok hcat hccl HT0
      go_wp2_with fail
      refine Calls.mono hqy ?_
      rintro e W3 ⟨q, rfl, hqok, hql, hM3, hk3⟩
      clear hqy b0 b1 b2 b3 b4 b5 b6 b7 b8
      have hG3 := GB.keep HGc.out hk3 HCM.out
      obtain ⟨⟨sad, scap, sxs⟩, wad, wcap, wh, gp, ⟨kad, kcap, kxs⟩, ⟨uad, ucap, uxs⟩, ⟨lad, lcap, lxs⟩, ⟨oad, ocap, oxs⟩⟩ := q
      have b0 : W3.cell? ⟨W.heap.size + 1 + 1, 0, none⟩ = some (.slice co ts.length cc) := hG3.cell 0
      have b1 : W3.cell? ⟨W.heap.size + 1 + 1, 1, none⟩ = some (.slice none 0 0) := hG3.cell 1
      have b2 : W3.cell? ⟨W.heap.size + 1 + 1, 2, none⟩ = some (.slice none 0 0) := hG3.cell 2
      have b3 : W3.cell? ⟨W.heap.size + 1 + 1, 3, none⟩ = some (.bool false) := hG3.cell 3
      have b4 : W3.cell? ⟨W.heap.size + 1 + 1, 4, none⟩ = some (.slice none 0 0) := hG3.cell 4
      have b5 : W3.cell? ⟨W.heap.size + 1 + 1, 5, none⟩ = some (.slice none 0 0) := hG3.cell 5
      have b6 : W3.cell? ⟨W.heap.size + 1 + 1, 6, none⟩ = some (.slice none 0 0) := hG3.cell 6
      have b7 : W3.cell? ⟨W.heap.size + 1 + 1, 7, none⟩ = some (.slice none 0 0) := hG3.cell 7
      have b8 : W3.cell? ⟨W.heap.size + 1 + 1, 8, none⟩ = some (.slice none 0 0) := hG3.cell 8
      have f1 : W3.frozen? ⟨W.heap.size + 1 + 1, 1, none⟩ = false := hG3.frozen 1
      have f2 : W3.frozen? ⟨W.heap.size + 1 + 1, 2, none⟩ = false := hG3.frozen 2
      have f3 : W3.frozen? ⟨W.heap.size + 1 + 1, 3, none⟩ = false := hG3.frozen 3
      have f4 : W3.frozen? ⟨W.heap.size + 1 + 1, 4, none⟩ = false := hG3.frozen 4
      have f5 : W3.frozen? ⟨W.heap.size + 1 + 1, 5, none⟩ = false := hG3.frozen 5
      have f6 : W3.frozen? ⟨W.heap.size + 1 + 1, 6, none⟩ = false := hG3.frozen 6
      have f7 : W3.frozen? ⟨W.heap.size + 1 + 1, 7, none⟩ = false := hG3.frozen 7
      have hk34 : Kept (fun b => b ≠ W.heap.size + 2) W3 (((((((W3.setCell ⟨W.heap.size + 1 + 1, 1, none⟩ (.slice sad sxs.length scap)).setCell ⟨W.heap.size + 1 + 1, 2, none⟩ (.slice wad wh.length wcap)).setCell ⟨W.heap.size + 1 + 1, 3, none⟩ (.bool gp)).setCell ⟨W.heap.size + 1 + 1, 4, none⟩ (.slice kad kxs.length kcap)).setCell ⟨W.heap.size + 1 + 1, 5, none⟩ (.slice uad uxs.length ucap)).setCell ⟨W.heap.size + 1 + 1, 6, none⟩ (.slice lad lxs.length lcap)).setCell ⟨W.heap.size + 1 + 1, 7, none⟩ (.slice oad oxs.length ocap)) := (((((((Kept.setCell _ _ _ (fun h => h rfl)).trans (Kept.setCell _ _ _ (fun h => h rfl))).trans (Kept.setCell _ _ _ (fun h => h rfl))).trans (Kept.setCell _ _ _ (fun h => h rfl))).trans (Kept.setCell _ _ _ (fun h => h rfl))).trans (Kept.setCell _ _ _ (fun h => h rfl))).trans (Kept.setCell _ _ _ (fun h => h rfl)))
      have hG4 : GB (((((((W3.setCell ⟨W.heap.size + 1 + 1, 1, none⟩ (.slice sad sxs.length scap)).setCell ⟨W.heap.size + 1 + 1, 2, none⟩ (.slice wad wh.length wcap)).setCell ⟨W.heap.size + 1 + 1, 3, none⟩ (.bool gp)).setCell ⟨W.heap.size + 1 + 1, 4, none⟩ (.slice kad kxs.length kcap)).setCell ⟨W.heap.size + 1 + 1, 5, none⟩ (.slice uad uxs.length ucap)).setCell ⟨W.heap.size + 1 + 1, 6, none⟩ (.slice lad lxs.length lcap)).setCell ⟨W.heap.size + 1 + 1, 7, none⟩ (.slice oad oxs.length ocap)) (W.heap.size + 2) 41 (caseA (.slice co ts.length cc) (⟨⟨sad, scap, sxs⟩, wad, wcap, wh, gp, ⟨kad, kcap, kxs⟩, ⟨uad, ucap, uxs⟩, ⟨lad, lcap, lxs⟩, ⟨oad, ocap, oxs⟩⟩ : QueryV) (.slice none 0 0)) := (((((((hG3.set 1 _).set 2 _).set 3 _).set 4 _).set 5 _).set 6 _).set 7 _)
      obtain ⟨W4, hW4⟩ : ∃ W4, (((((((W3.setCell ⟨W.heap.size + 1 + 1, 1, none⟩ (.slice sad sxs.length scap)).setCell ⟨W.heap.size + 1 + 1, 2, none⟩ (.slice wad wh.length wcap)).setCell ⟨W.heap.size + 1 + 1, 3, none⟩ (.bool gp)).setCell ⟨W.heap.size + 1 + 1, 4, none⟩ (.slice kad kxs.length kcap)).setCell ⟨W.heap.size + 1 + 1, 5, none⟩ (.slice uad uxs.length ucap)).setCell ⟨W.heap.size + 1 + 1, 6, none⟩ (.slice lad lxs.length lcap)).setCell ⟨W.heap.size + 1 + 1, 7, none⟩ (.slice oad oxs.length ocap)) = W4 := ⟨_, rfl⟩
      rw [hW4] at hk34 hG4
      have HS4 : Hid (wr.heap.size ≤ W4.heap.size) := show _ ≤ _ by have := hk3.size; have := hk34.size; omega
      have HQL : Hid (ListsIn (W.heap.size + 3) (⟨⟨sad, scap, sxs⟩, wad, wcap, wh, gp, ⟨kad, kcap, kxs⟩, ⟨uad, ucap, uxs⟩, ⟨lad, lcap, lxs⟩, ⟨oad, ocap, oxs⟩⟩ : QueryV) W4) := (hql.keep hk34 (fun b hb => by have := HS2.out; omega)).lower (by have := HS2.out; omega)
      have HQLB : Hid (ListsIn wr.heap.size (⟨⟨sad, scap, sxs⟩, wad, wcap, wh, gp, ⟨kad, kcap, kxs⟩, ⟨uad, ucap, uxs⟩, ⟨lad, lcap, lxs⟩, ⟨oad, ocap, oxs⟩⟩ : QueryV) W4) := hql.keep hk34 (fun b hb => by have := HS2.out; omega)
      have HQOK : Hid (QueryOk ts (⟨⟨sad, scap, sxs⟩, wad, wcap, wh, gp, ⟨kad, kcap, kxs⟩, ⟨uad, ucap, uxs⟩, ⟨lad, lcap, lxs⟩, ⟨oad, ocap, oxs⟩⟩ : QueryV)) := hqok
      have hM4 : MakerAt (W.heap.size + 1) lo lc l W4 := hM3.keepN hk34 (by omega) (fun a ha => by have := HLO.out a ha; omega)
      have HGr4 : Hid _ := (GB.keep HGr3.out hk3 (show W.heap.size ≠ W.heap.size + 1 by omega)).keep hk34 (by omega)
      have hT4 : TablesAt W4 co ts := TablesAt.keep (TablesAt.keep HTA.out (fun a ha hlt => hk3.block _ hlt (by have := (HCO.out a ha).1; have := HS2.out; omega))) (fun a ha hlt => hk34.block _ hlt (by have := (HCO.out a ha).1; have := HS2.out; omega))
      have HT4 : Hid _ := hT4
      have HK4 : Hid (Kept (fun b => b ≠ W.heap.size + 1 ∧ b ≠ W.heap.size + 2) W2 W4) := (HKr.out.trans (hk3.mono fun b _ h => h.1)).trans (hk34.mono fun b _ h => h.2)
      have HG4 : Hid _ := hG4
      have HM4 : Hid _ := hM4
      clear hql hqok hM3 hk3 hG3 hk34 hG4 hM4 hT4 HGc HTA HKr HGr3 HQLB
      unfold QueryV.cells IntsV.val
      simp only
      go_wp2
      go_loopw [7] (fun iv wr => ∃ (i : Nat) (db : List RowsV) (v : Value), iv = .int .i64 i ∧ i ≤ ts.length ∧ Hid (db.length = i ∧ ∀ j, j < db.length → (db.getD j rz).rs.length ≤ 4 ∧ ∀ r ∈ (db.getD j rz).rs, (r.xs.length : Int) = (ts.getD j tz).cols ∧ ∀ x ∈ r.xs, x = 1073741824 ∨ (-1 ≤ x ∧ x ≤ 3)) ∧
    GB wr (W.heap.size + 2) 41 (caseA (.slice co ts.length cc) (⟨⟨sad, scap, sxs⟩, wad, wcap, wh, gp, ⟨kad, kcap, kxs⟩, ⟨uad, ucap, uxs⟩, ⟨lad, lcap, lxs⟩, ⟨oad, ocap, oxs⟩⟩ : QueryV) v) ∧ Nest tabItem 53 W4 wr v db ∧ MakerAt (W.heap.size + 1) lo lc l wr ∧ Kept (fun b => b ≠ W.heap.size + 1 ∧ b ≠ W.heap.size + 2) W4 wr) (fun iv _ => ts.length - (intOf iv).toNat)
      case atStart => exact ⟨0, [], _, rfl, Nat.zero_le _, ⟨rfl, fun j hj => by simp at hj⟩, HG4.out, Nest.nil _ _ _ _, HM4.out, Kept.refl _ _⟩
      case round =>
        obtain ⟨w2, rfl⟩ : ∃ w2, w2 = wr := ⟨wr, rfl⟩
        obtain ⟨i, db, v, rfl, hil, hdok, hgc, hns, hmk, hkp⟩ := hrel
        obtain ⟨va, vn, vc, rfl⟩ := ownsRow_slice hns.own
        have c0 : w2.cell? ⟨W.heap.size + 1 + 1, 0, none⟩ = some (.slice co ts.length cc) := hgc.cell 0
        have hsz2 := hkp.size
        by_cases hlt : i < ts.length
        · have hn3 := next_any (W.heap.size + 1) lo lc l 5 w2 hmk (by omega) HL.out
          have hT2 : TablesAt w2 co ts := TablesAt.keep HT4.out (fun a ha hlt2 => hkp.block _ hlt2 (by have := (HCO.out a ha).1; have := HS2.out; omega))
          obtain ⟨ctb, cto, rfl, ctc, -⟩ := hT2.2 i hlt
          have hcolb := cols_of HCAT.out hlt
          have HCTB : Hid (ctb ≠ W.heap.size + 1) := show _ ≠ _ by have := (HCO.out _ rfl).1; have h : W2.heap.size ≤ ctb := this; have := HS2.out; omega
          generalize hcl : (ts.getD i tz).cols = cl at *
          have HCL : Hid _ := hcl
          obtain ⟨cn, rfl⟩ : ∃ cn : Nat, cl = (cn : Int) := ⟨cl.toNat, by omega⟩
          have HGC : Hid _ := hgc
          have HNS : Hid _ := hns
          have HKP : Hid _ := hkp
          clear hgc hns hmk hkp hT2 hcl
          go_wp2_with fail
          refine hn3.mono ?_
          rintro e Wa ⟨r3, rfl, hr3, hr3', hMa, hka⟩
          clear hn3
          obtain ⟨k3, rfl⟩ : ∃ k : Nat, r3 = (k : Int) := ⟨r3.toNat, by omega⟩
          have hsa := hka.size
          have ctca := cell_keepN ctc hka HCTB.out
          have c0a := cell_keepN c0 hka HCM.out
          have HKA : Hid _ := hka
          have HMa : Hid _ := hMa
          have hmba := hMa.lt
          have HMBA : Hid _ := hmba
          clear ctc c0 hMa hka hmba
          go_wp2
          go_loopw [8, 9] (fun v8 kv wr => ∃ (k : Nat) (rs : List IntsV), kv = .int .i64 k ∧ rs.length + k ≤ 4 ∧ Hid (∀ r ∈ rs, (r.xs.length : Int) = (cn : Int) ∧ ∀ x ∈ r.xs, x = 1073741824 ∨ (-1 ≤ x ∧ x ≤ 3)) ∧ Nest rowItem 23 Wa wr v8 rs ∧ MakerAt (W.heap.size + 1) lo lc l wr ∧ Kept (fun b => b ≠ W.heap.size + 1) Wa wr) (fun _ kv _ => (intOf kv).toNat)
          case atStart => exact ⟨k3, [], rfl, by simp; omega, (fun r hr => by simp at hr), Nest.nil _ _ _ _, HMa.out, Kept.refl _ _⟩
          case round =>
            obtain ⟨w3, rfl⟩ : ∃ w3, w3 = wr := ⟨wr, rfl⟩
            obtain ⟨k, rs, rfl, hkm3, hrok, hnr, hmk3, hkp3⟩ := hrel
            obtain ⟨ra, rn, rc, rfl⟩ := ownsRow_slice hnr.own
            have hsz3 := hkp3.size
            by_cases h03 : 0 < k
            ·
              --DEV m3 begin
              have hgt3 : ((k : Int) > 0) := by omega
              have HNR : Hid _ := hnr
              have HMK3 : Hid _ := hmk3
              have HKP3 : Hid _ := hkp3
              have ctc3 := cell_keepN ctca hkp3 HCTB.out
              have c03 := cell_keepN c0a hkp3 HCM.out
              clear hnr hmk3 hkp3
              go_wp2
              go_loopw [10, 11] (fun v10 mv wr => ∃ (m : Nat) (xs : List Int), mv = .int .i64 m ∧ m ≤ cn ∧ Hid (xs.length = m ∧ ∀ x ∈ xs, x = 1073741824 ∨ (-1 ≤ x ∧ x ≤ 3)) ∧ wr.ownsRow w3.heap.size 3 1 v10 m (xs.map (Value.int .i64)) ∧ MakerAt (W.heap.size + 1) lo lc l wr ∧ Kept (fun b => b ≠ W.heap.size + 1) w3 wr) (fun _ mv _ => cn - (intOf mv).toNat)
              case atStart => exact ⟨0, [], rfl, Nat.zero_le _, ⟨rfl, fun x hx => by simp at hx⟩, World.ownsRow_nil _ _ _ _, HMK3.out, Kept.refl _ _⟩
              case round =>
                obtain ⟨m, xs, rfl, hmc, hxok, hox, hmk4, hkp4⟩ := hrel
                have ctc4 := cell_keepN ctc3 hkp4 HCTB.out
                have c04 := cell_keepN c03 hkp4 HCM.out
                have hsz4 := hkp4.size
                by_cases hml : m < cn
                · have hval := value_any (W.heap.size + 1) lo lc l wr hmk4 HL.out
                  have HOX : Hid _ := hox
                  clear hox hmk4
                  go_wp2_with fail
                  refine hval.mono ?_
                  rintro e Wc ⟨x, rfl, hxv, hMc, hkc⟩
                  clear hval
                  have hoxc := ownsRow_keep HOX.out hkc (fun g hg => by have := (ownsRow_lt HOX.out hg).1; have := HMBA.out; omega)
                  have hKc := hkp4.trans hkc
                  have hsc := hKc.size
                  have HXL : Hid (xs.length = m) := hxok.out.1
                  have HMc : Hid _ := hMc
                  clear hMc hkc hkp4 ctc4 c04
                  go_wp2_with (first | (at_builtin; refine wpList_append_own _ rfl _ _ 23 rfl w3.heap.size 3 i0 (.int .i64 0) 1 8 Try.underlying23 hi hz0 hz1 hz2 rfl (by decide) _ _ _ rfl (hoxc.alloc _) ⟨Wc.heap.size, 0, none⟩ 1 1 [.int .i64 x] rfl rfl (World.news_of_block (cs := #[.int .i64 x]) (t := 3) (fr := (0, 0)) (heap_alloc_new Wc _)) (fun u hu => by rw [List.mem_singleton] at hu; rw [hu]; rfl) (by unfold maxLen; omega) (by omega) (by rw [World.size_alloc]; omega) ?_))
                  intro v' w5 hown5 hgrow5 _
                  have hob : ∀ g, Value.ownBlock _ = some g → w3.heap.size ≤ g := fun g hg => (ownsRow_lt hoxc hg).1
                  have HM5 : Hid _ := (MakerAt.alloc HMc.out (.cells #[.int .i64 x] 3)).grown hgrow5 (fun e => by have := hob _ e; have := HMBA.out; omega) (fun a ha e => by have := hob _ e; have := (HLO2.out a ha).1; have := HK4.out.size; omega)
                  have hK5 : Kept (fun b => b ≠ W.heap.size + 1) w3 w5 := by
                    have h1 : Kept (fun b => b ≠ W.heap.size + 1) w3 (Wc.alloc (.cells #[.int .i64 x] 3)) := hKc.trans (Kept.alloc _ _)
                    exact ((h1.mono (t := fun b => b ≠ W.heap.size + 1 ∧ b < w3.heap.size) (fun b _ h => h.1)).trans (Kept.grown hgrow5 (fun r e h => by have := hob r e; have := h.2; omega))).mono (fun b hb h => ⟨h, hb⟩)
                  have HO5 : Hid _ := hown5
                  have HK5 : Hid _ := hK5
                  clear hown5 hgrow5 hoxc hob hK5 hKc
                  go_wp2
                  go_roundw
                  case rel => exact ⟨m + 1, xs ++ [x], by go_num, by omega, ⟨by rw [List.length_append, List.length_singleton, HXL.out], (fun y hy => by
                    rcases List.mem_append.1 hy with hy | hy
                    · exact hxok.out.2 y hy
                    · rw [List.mem_singleton] at hy; rw [hy]; exact hxv)⟩, by rw [List.map_append]; exact HO5.out, HM5.out, HK5.out⟩
                  case measure => simp [intOf]; omega
                · have hme : m = cn := by omega
                  subst hme
                  obtain ⟨iv, hiv, hivx, hivat, hivb⟩ := rowEl_of_own hox (by have := hxok.out.1; omega)
                  have hnr4 := Nest.keep HNR.out hkp4 (fun b hb => by have := HMBA.out; omega)
                  have hown4 := hnr4.own
                  have hK4 := HKP3.out.trans hkp4
                  have hxb4 : ∀ b, rowItem.blk iv b → Wa.heap.size ≤ b ∧ b < wr.heap.size ∧ (Value.slice ra rn rc).ownBlock ≠ some b := fun b hb => by
                    have h1 := hivb b hb
                    refine ⟨by omega, rowEl.inn hivat hb, fun e => ?_⟩
                    have h2 := (ownsRow_lt HNR.out.own e).2
                    omega
                  have HXB : Hid _ := hxb4
                  have HIA : Hid _ := hivat
                  have HN4 : Hid _ := hnr4
                  have HK4' : Hid _ := hK4
                  have HM4' : Hid _ := hmk4
                  have HIX : Hid (iv.xs = xs) := hivx
                  have HXK : Hid (xs.length = m ∧ ∀ x ∈ xs, x = 1073741824 ∨ (-1 ≤ x ∧ x ≤ 3)) := hxok.out
                  rw [hiv]
                  obtain ⟨iad, icap, ixs⟩ := iv
                  unfold IntsV.val
                  simp only
                  clear hox hivat hivb hnr4 hK4 hxb4 hmk4 hkp4 hiv hivx hxok
                  go_wp2_with (first | (at_builtin; refine wpList_append_own_at _ rfl _ _ 53 rfl Wa.heap.size 23 ir (.slice none 0 0) 1 24 Try.underlying53 hir hzr0 hzr1 hzr2 rfl (by decide) _ _ _ rfl (hown4.alloc _) ⟨wr.heap.size, 0, none⟩ 1 1 [.slice iad ixs.length icap] rfl rfl (World.news_of_block (cs := #[.slice iad ixs.length icap]) (t := 23) (fr := (0, 0)) (heap_alloc_new wr _)) (fun u hu => by rw [List.mem_singleton] at hu; rw [hu]; rfl) (by unfold maxLen; omega) (by omega) (by rw [World.size_alloc]; omega) ?_))
                  intro v' w5 hown5 hgrow5 _ hat5
                  have M := Nest.more HN4.out (x := ⟨iad, icap, ixs⟩) HIA.out HXB.out (Kept.alloc wr _) (by simp) hown5 hgrow5 (by rw [World.size_alloc]; exact hat5)
                  have hvb : ∀ g, (Value.slice ra rn rc).ownBlock = some g → Wa.heap.size ≤ g := fun g hg => (ownsRow_lt HN4.out.own hg).1
                  have HM5 : Hid _ := (MakerAt.alloc HM4'.out (.cells #[.slice iad ixs.length icap] 23)).grown hgrow5 (fun e => by have := hvb _ e; have := HMBA.out; omega) (fun a ha e => by have := hvb _ e; have := (HLO2.out a ha).1; have := HK4.out.size; omega)
                  have hK5 : Kept (fun b => b ≠ W.heap.size + 1) Wa w5 := ((HK4'.out.mono (t := fun b => b ≠ W.heap.size + 1 ∧ b < Wa.heap.size) (fun b _ h => h.1)).trans (M.2.mono fun b _ h => h.2)).mono (fun b hb h => ⟨h, hb⟩)
                  have HK5 : Hid _ := hK5
                  have HM1 : Hid _ := M.1
                  clear M hown5 hgrow5 hat5 hown4 hvb hK5
                  go_wp2
                  go_roundw
                  case rel => exact ⟨k - 1, rs ++ [⟨iad, icap, ixs⟩], congrArg (Value.int .i64) (show _ = ((k - 1 : Nat) : Int) by omega), by rw [List.length_append, List.length_singleton]; omega, (fun r hr => by
                    rcases List.mem_append.1 hr with hr | hr
                    · exact hrok.out r hr
                    · rw [List.mem_singleton] at hr
                      have hix : ixs = xs := HIX.out
                      rw [hr]
                      show (ixs.length : Int) = _ ∧ ∀ x ∈ ixs, _
                      rw [hix]
                      exact ⟨by rw [HXK.out.1], HXK.out.2⟩), HM1.out, HM5.out, HK5.out⟩
                  case measure => simp [intOf]; omega
              --DEV m3 end
            ·
              --DEV m4 begin
              have hk0 : k = 0 := by omega
              subst hk0
              obtain ⟨tb, htv, htrs, htat, htblk⟩ := hnr.table (by omega)
              have hk23 : Kept (fun b => b ≠ W.heap.size + 1) w2 w3 := HKA.out.trans hkp3
              have hg3 := GB.keep HGC.out hk23 HCM.out
              have hn3' := Nest.keep HNS.out hk23 (fun b hb => by have := HS2.out; have := HK4.out.size; omega)
              have hown3 := hn3'.own
              have c83 : w3.cell? ⟨W.heap.size + 1 + 1, 8, none⟩ = some (.slice va vn vc) := hg3.cell 8
              have HXB : Hid (∀ b, tabItem.blk tb b → W4.heap.size ≤ b ∧ b < w3.heap.size ∧ (Value.slice va vn vc).ownBlock ≠ some b) := fun b hb => by
                have h1 := htblk b hb
                refine ⟨by omega, h1.2, fun e => ?_⟩
                have h2 := (ownsRow_lt HNS.out.own e).2
                omega
              have HTA : Hid _ := htat
              have HTR : Hid (tb.rs = rs) := htrs
              have HN3 : Hid _ := hn3'
              have HG3 : Hid _ := hg3
              have HM3 : Hid _ := hmk3
              have HK3 : Hid (Kept (fun b => b ≠ W.heap.size + 1 ∧ b ≠ W.heap.size + 2) W4 w3) := HKP.out.trans (hk23.mono fun b _ h => h.1)
              have hszd : db.length ≤ 3 := by have := hdok.out.1; have := HTOK.out.2.1; omega
              have HDL : Hid (db.length = i) := hdok.out.1
              have hsz34 : W4.heap.size ≤ w3.heap.size := HK3.out.size
              obtain ⟨tad, tcap, trs⟩ := tb
              have htv' : Value.slice ra rn rc = .slice tad trs.length tcap := htv
              rw [htv']
              clear htv htv' htat htblk htrs hk23 hg3 hn3' hnr hmk3 hkp3
              go_wp2_with (first | (at_builtin; refine wpList_append_own_at _ rfl _ _ 32 rfl W4.heap.size 53 iw (.slice none 0 0) 1 24 Try.underlying32 hiw hzw0 hzw1 hzw2 rfl (by decide) _ _ _ rfl (hown3.alloc _) ⟨w3.heap.size, 0, none⟩ 1 1 [.slice tad trs.length tcap] rfl rfl (World.news_of_block (cs := #[.slice tad trs.length tcap]) (t := 53) (fr := (0, 0)) (heap_alloc_new w3 _)) (fun u hu => by rw [List.mem_singleton] at hu; rw [hu]; rfl) (by unfold maxLen; omega) (by omega) (by rw [World.size_alloc]; omega) ?_))
              intro v' w5 hown5 hgrow5 _ hat5
              obtain ⟨va', vn', vc', rfl⟩ := ownsRow_slice hown5
              have M := Nest.more HN3.out (x := ⟨tad, tcap, trs⟩) HTA.out HXB.out (Kept.alloc w3 _) (by simp) hown5 hgrow5 (by rw [World.size_alloc]; exact hat5)
              have hvb : ∀ g, (Value.slice va vn vc).ownBlock = some g → W4.heap.size ≤ g := fun g hg => (ownsRow_lt HN3.out.own hg).1
              have hcw : W.heap.size + 2 < W4.heap.size := by have := HS2.out; have := HK4.out.size; omega
              have hc5 : w5.cell? ⟨W.heap.size + 1 + 1, 8, none⟩ = some (.slice va vn vc) := cell_keep c83 M.2 hcw
              have hg5 := GB.keep HG3.out M.2 hcw
              have hf5 : w5.frozen? ⟨W.heap.size + 1 + 1, 8, none⟩ = false := hg5.frozen 8
              have hk56 : Kept (fun b => b ≠ W.heap.size + 2) w5 (w5.setCell ⟨W.heap.size + 1 + 1, 8, none⟩ (.slice va' vn' vc')) := Kept.setCell _ _ _ (fun h => h rfl)
              have HG6 : Hid (GB (w5.setCell ⟨W.heap.size + 1 + 1, 8, none⟩ (.slice va' vn' vc')) (W.heap.size + 2) 41 (caseA (.slice (some ⟨ctb, cto, none⟩) ts.length cc) (⟨⟨sad, scap, sxs⟩, wad, wcap, wh, gp, ⟨kad, kcap, kxs⟩, ⟨uad, ucap, uxs⟩, ⟨lad, lcap, lxs⟩, ⟨oad, ocap, oxs⟩⟩ : QueryV) (.slice va' vn' vc'))) := hg5.set 8 _
              have HM6 : Hid _ := ((MakerAt.alloc HM3.out (.cells #[.slice tad trs.length tcap] 53)).grown hgrow5 (fun e => by have := hvb _ e; omega) (fun a ha e => by have := hvb _ e; have := (HLO2.out a ha).1; have := HK4.out.size; omega)).keepN hk56 (by omega) (fun a ha => by have := HLO.out a ha; omega)
              have HN6 : Hid _ := M.1.keep hk56 (fun b hb => by omega)
              have HK6 : Hid (Kept (fun b => b ≠ W.heap.size + 1 ∧ b ≠ W.heap.size + 2) W4 (w5.setCell ⟨W.heap.size + 1 + 1, 8, none⟩ (.slice va' vn' vc'))) := (((HK3.out.mono (t := fun b => (b ≠ W.heap.size + 1 ∧ b ≠ W.heap.size + 2) ∧ b < W4.heap.size) (fun b _ h => h.1)).trans (M.2.mono fun b _ h => h.2)).trans (hk56.mono fun b _ h => h.1.2)).mono (fun b hb h => ⟨h, hb⟩)
              clear M hown5 hgrow5 hat5 hown3 hvb hk56 hg5 c83
              go_wp2
              go_roundw
              case rel => exact ⟨i + 1, db ++ [⟨tad, tcap, trs⟩], _, by go_num, by omega, ⟨by rw [List.length_append, List.length_singleton, HDL.out], fun j hj => by
                rw [List.length_append, List.length_singleton] at hj
                by_cases hjl : j < db.length
                · have e1 : (db ++ [(⟨tad, tcap, trs⟩ : RowsV)]).getD j rz = db.getD j rz := by simp [List.getD, List.getElem?_append, hjl]
                  rw [e1]
                  exact hdok.out.2 j hjl
                · have hje : j = db.length := by omega
                  have e1 : (db ++ [(⟨tad, tcap, trs⟩ : RowsV)]).getD j rz = ⟨tad, tcap, trs⟩ := by rw [hje]; simp [List.getD]
                  rw [e1]
                  have e2 : trs = rs := HTR.out
                  have e3 : j = i := by rw [hje, HDL.out]
                  show trs.length ≤ 4 ∧ ∀ r ∈ trs, _
                  rw [e2, e3, HCL.out]
                  exact ⟨by omega, hrok.out⟩⟩, HG6.out, HN6.out, HM6.out, HK6.out⟩
              case measure => simp [intOf]; omega
              --DEV m4 end
        ·
          --DEV m5 begin
          have hie : i = ts.length := by omega
          obtain ⟨d, dc, hdv, hdh⟩ := hns.db (by have := hdok.out.1; have := HTOK.out.2.1; omega)
          rw [hdv] at hgc hns
          clear hdh
          have q0 : w2.cell? ⟨W.heap.size + 1 + 1, 0, none⟩ = some (.slice co ts.length cc) := hgc.cell 0
          have q1 : w2.cell? ⟨W.heap.size + 1 + 1, 1, none⟩ = some (.slice sad sxs.length scap) := hgc.cell 1
          have q2 : w2.cell? ⟨W.heap.size + 1 + 1, 2, none⟩ = some (.slice wad wh.length wcap) := hgc.cell 2
          have q3 : w2.cell? ⟨W.heap.size + 1 + 1, 3, none⟩ = some (.bool gp) := hgc.cell 3
          have q4 : w2.cell? ⟨W.heap.size + 1 + 1, 4, none⟩ = some (.slice kad kxs.length kcap) := hgc.cell 4
          have q5 : w2.cell? ⟨W.heap.size + 1 + 1, 5, none⟩ = some (.slice uad uxs.length ucap) := hgc.cell 5
          have q6 : w2.cell? ⟨W.heap.size + 1 + 1, 6, none⟩ = some (.slice lad lxs.length lcap) := hgc.cell 6
          have q7 : w2.cell? ⟨W.heap.size + 1 + 1, 7, none⟩ = some (.slice oad oxs.length ocap) := hgc.cell 7
          have q8 : w2.cell? ⟨W.heap.size + 1 + 1, 8, none⟩ = some (.slice d db.length dc) := hgc.cell 8
          have HGr5 : Hid _ := GB.keep HGr4.out hkp (show W.heap.size ≠ W.heap.size + 1 ∧ W.heap.size ≠ W.heap.size + 2 by omega)
          have r0 : w2.cell? ⟨W.heap.size, 0, none⟩ = some (.slice none 0 0) := GB.cell HGr5.out 0
          have y0 := GB.frozen HGr5.out 0
          have r1 : w2.cell? ⟨W.heap.size, 1, none⟩ = some (.slice none 0 0) := GB.cell HGr5.out 1
          have y1 := GB.frozen HGr5.out 1
          have r2 : w2.cell? ⟨W.heap.size, 2, none⟩ = some (.slice none 0 0) := GB.cell HGr5.out 2
          have y2 := GB.frozen HGr5.out 2
          have r3 : w2.cell? ⟨W.heap.size, 3, none⟩ = some (.bool false) := GB.cell HGr5.out 3
          have y3 := GB.frozen HGr5.out 3
          have r4 : w2.cell? ⟨W.heap.size, 4, none⟩ = some (.slice none 0 0) := GB.cell HGr5.out 4
          have y4 := GB.frozen HGr5.out 4
          have r5 : w2.cell? ⟨W.heap.size, 5, none⟩ = some (.slice none 0 0) := GB.cell HGr5.out 5
          have y5 := GB.frozen HGr5.out 5
          have r6 : w2.cell? ⟨W.heap.size, 6, none⟩ = some (.slice none 0 0) := GB.cell HGr5.out 6
          have y6 := GB.frozen HGr5.out 6
          have r7 : w2.cell? ⟨W.heap.size, 7, none⟩ = some (.slice none 0 0) := GB.cell HGr5.out 7
          have y7 := GB.frozen HGr5.out 7
          have r8 : w2.cell? ⟨W.heap.size, 8, none⟩ = some (.slice none 0 0) := GB.cell HGr5.out 8
          have y8 := GB.frozen HGr5.out 8
          have hkf : Kept (fun b => b ≠ W.heap.size) w2 (((((((((w2.setCell ⟨W.heap.size, 0, none⟩ (.slice co ts.length cc)).setCell ⟨W.heap.size, 1, none⟩ (.slice sad sxs.length scap)).setCell ⟨W.heap.size, 2, none⟩ (.slice wad wh.length wcap)).setCell ⟨W.heap.size, 3, none⟩ (.bool gp)).setCell ⟨W.heap.size, 4, none⟩ (.slice kad kxs.length kcap)).setCell ⟨W.heap.size, 5, none⟩ (.slice uad uxs.length ucap)).setCell ⟨W.heap.size, 6, none⟩ (.slice lad lxs.length lcap)).setCell ⟨W.heap.size, 7, none⟩ (.slice oad oxs.length ocap)).setCell ⟨W.heap.size, 8, none⟩ (.slice d db.length dc)) := (((((((((Kept.setCell _ _ _ (fun h => h rfl)).trans (Kept.setCell _ _ _ (fun h => h rfl))).trans (Kept.setCell _ _ _ (fun h => h rfl))).trans (Kept.setCell _ _ _ (fun h => h rfl))).trans (Kept.setCell _ _ _ (fun h => h rfl))).trans (Kept.setCell _ _ _ (fun h => h rfl))).trans (Kept.setCell _ _ _ (fun h => h rfl))).trans (Kept.setCell _ _ _ (fun h => h rfl))).trans (Kept.setCell _ _ _ (fun h => h rfl)))
          have HGf : Hid (GB (((((((((w2.setCell ⟨W.heap.size, 0, none⟩ (.slice co ts.length cc)).setCell ⟨W.heap.size, 1, none⟩ (.slice sad sxs.length scap)).setCell ⟨W.heap.size, 2, none⟩ (.slice wad wh.length wcap)).setCell ⟨W.heap.size, 3, none⟩ (.bool gp)).setCell ⟨W.heap.size, 4, none⟩ (.slice kad kxs.length kcap)).setCell ⟨W.heap.size, 5, none⟩ (.slice uad uxs.length ucap)).setCell ⟨W.heap.size, 6, none⟩ (.slice lad lxs.length lcap)).setCell ⟨W.heap.size, 7, none⟩ (.slice oad oxs.length ocap)).setCell ⟨W.heap.size, 8, none⟩ (.slice d db.length dc)) W.heap.size 41 (caseA (.slice co ts.length cc) (⟨⟨sad, scap, sxs⟩, wad, wcap, wh, gp, ⟨kad, kcap, kxs⟩, ⟨uad, ucap, uxs⟩, ⟨lad, lcap, lxs⟩, ⟨oad, ocap, oxs⟩⟩ : QueryV) (.slice d db.length dc))) := GB.set9 (show GB w2 W.heap.size 41 #[.slice none 0 0, .slice none 0 0, .slice none 0 0, .bool false, .slice none 0 0, .slice none 0 0, .slice none 0 0, .slice none 0 0, .slice none 0 0] from HGr5.out) _ _ _ _ _ _ _ _ _
          have HTf : Hid (TablesAt (((((((((w2.setCell ⟨W.heap.size, 0, none⟩ (.slice co ts.length cc)).setCell ⟨W.heap.size, 1, none⟩ (.slice sad sxs.length scap)).setCell ⟨W.heap.size, 2, none⟩ (.slice wad wh.length wcap)).setCell ⟨W.heap.size, 3, none⟩ (.bool gp)).setCell ⟨W.heap.size, 4, none⟩ (.slice kad kxs.length kcap)).setCell ⟨W.heap.size, 5, none⟩ (.slice uad uxs.length ucap)).setCell ⟨W.heap.size, 6, none⟩ (.slice lad lxs.length lcap)).setCell ⟨W.heap.size, 7, none⟩ (.slice oad oxs.length ocap)).setCell ⟨W.heap.size, 8, none⟩ (.slice d db.length dc)) co ts) := TablesAt.keep (TablesAt.keep HT4.out (fun a ha hlt2 => hkp.block _ hlt2 (by have := (HCO.out a ha).1; have := HS2.out; omega))) (fun a ha hlt2 => hkf.block _ hlt2 (by have := (HCO.out a ha).1; have := HS2.out; omega))
          have HLf : Hid (ListsIn W.heap.size (⟨⟨sad, scap, sxs⟩, wad, wcap, wh, gp, ⟨kad, kcap, kxs⟩, ⟨uad, ucap, uxs⟩, ⟨lad, lcap, lxs⟩, ⟨oad, ocap, oxs⟩⟩ : QueryV) (((((((((w2.setCell ⟨W.heap.size, 0, none⟩ (.slice co ts.length cc)).setCell ⟨W.heap.size, 1, none⟩ (.slice sad sxs.length scap)).setCell ⟨W.heap.size, 2, none⟩ (.slice wad wh.length wcap)).setCell ⟨W.heap.size, 3, none⟩ (.bool gp)).setCell ⟨W.heap.size, 4, none⟩ (.slice kad kxs.length kcap)).setCell ⟨W.heap.size, 5, none⟩ (.slice uad uxs.length ucap)).setCell ⟨W.heap.size, 6, none⟩ (.slice lad lxs.length lcap)).setCell ⟨W.heap.size, 7, none⟩ (.slice oad oxs.length ocap)).setCell ⟨W.heap.size, 8, none⟩ (.slice d db.length dc))) := ((ListsIn.keep HQL.out hkp (fun b hb => by omega)).keep hkf (fun b hb => by omega)).lower (by omega)
          have hdl3 : db.length ≤ 1000 := by have := hdok.out.1; have := HTOK.out.2.1; omega
          have hnf := hns.keep hkf (fun b hb => by have := HS2.out; have := HK4.out.size; omega)
          have HDf : Hid _ := Nest.db2 hnf hdl3
          have hbf : Below W.heap.size W (((((((((w2.setCell ⟨W.heap.size, 0, none⟩ (.slice co ts.length cc)).setCell ⟨W.heap.size, 1, none⟩ (.slice sad sxs.length scap)).setCell ⟨W.heap.size, 2, none⟩ (.slice wad wh.length wcap)).setCell ⟨W.heap.size, 3, none⟩ (.bool gp)).setCell ⟨W.heap.size, 4, none⟩ (.slice kad kxs.length kcap)).setCell ⟨W.heap.size, 5, none⟩ (.slice uad uxs.length ucap)).setCell ⟨W.heap.size, 6, none⟩ (.slice lad lxs.length lcap)).setCell ⟨W.heap.size, 7, none⟩ (.slice oad oxs.length ocap)).setCell ⟨W.heap.size, 8, none⟩ (.slice d db.length dc)) := ((((HKW2.out.mono (t := fun b => b < W.heap.size) (fun _ _ _ => trivial)).trans (HK4.out.mono fun b _ h => by omega)).trans (hkp.mono fun b _ h => by omega)).trans (hkf.mono fun b _ h => by omega)).below (Nat.le_refl _) (fun b hb => hb)
          have HBf : Hid _ := hbf
          have HOK : Hid (CaseOk ts (⟨⟨sad, scap, sxs⟩, wad, wcap, wh, gp, ⟨kad, kcap, kxs⟩, ⟨uad, ucap, uxs⟩, ⟨lad, lcap, lxs⟩, ⟨oad, ocap, oxs⟩⟩ : QueryV) db) := ⟨HTOK.out, HQOK.out, by rw [hdok.out.1]; exact hie, hdok.out.2⟩
          have HIE : Hid _ := hie
          have hnlt : ¬ (i : Int) < (ts.length : Int) := by omega
          clear hgc hns hmk hkp hkf hnf hbf hie hdv HGr5 hdok
          go_wp2
          refine bodyPost_ret (results_cell_row rfl _ _ W.heap.size 41 (caseA (.slice co ts.length cc) (⟨⟨sad, scap, sxs⟩, wad, wcap, wh, gp, ⟨kad, kcap, kxs⟩, ⟨uad, ucap, uxs⟩, ⟨lad, lcap, lxs⟩, ⟨oad, ocap, oxs⟩⟩ : QueryV) (.slice d db.length dc)) (0, 0) _ rfl HGf.out Try.underlying41 rfl (by kernel_rfl)) rfl ?_
          exact ⟨ts, (⟨⟨sad, scap, sxs⟩, wad, wcap, wh, gp, ⟨kad, kcap, kxs⟩, ⟨uad, ucap, uxs⟩, ⟨lad, lcap, lxs⟩, ⟨oad, ocap, oxs⟩⟩ : QueryV), db, co, d, cc, ⟨dc, rfl⟩, HOK.out, HTf.out, fun a ha => by have := (HCO.out a ha).1; have := HS2.out; omega, HCCL.out, HLf.out, HDf.out, HBf.out⟩
          --DEV m5 end

end Go.Proofs.Ytlpbelhfpoilpaa

