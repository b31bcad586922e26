import Derived.Deep.RegionHeld3
import Derived.Deep.RegionLaw
import Derived.Deep.AppendLies
import Derived.Deep.DrawnRows
import Derived.Test.YtlpbelhfpoilpaaCCatWidthRefA
import Derived.Test.YtlpbelhfpoilpaaCCatAItD
import Derived.Test.YtlpbelhfpoilpaaCGrOThAMkrAMkrB
set_option linter.all false
namespace Go.Scout
open Go.RowKit

def CondD.arr (c : CondD) : Array Value := #[.bool c.not, .int .i64 c.op, .int .i64 c.left, .bool c.const, .int .i64 c.right]

/-- Five cells of a block, and that they may be written. -/
structure Five (W : World) (G : Nat) (c : CondD) : Prop where
  c0 : W.cell? ⟨G, 0, none⟩ = some (.bool c.not)
  c1 : W.cell? ⟨G, 1, none⟩ = some (.int .i64 c.op)
  c2 : W.cell? ⟨G, 2, none⟩ = some (.int .i64 c.left)
  c3 : W.cell? ⟨G, 3, none⟩ = some (.bool c.const)
  c4 : W.cell? ⟨G, 4, none⟩ = some (.int .i64 c.right)
  f0 : W.frozen? ⟨G, 0, none⟩ = false
  f1 : W.frozen? ⟨G, 1, none⟩ = false
  f2 : W.frozen? ⟨G, 2, none⟩ = false
  f3 : W.frozen? ⟨G, 3, none⟩ = false
  f4 : W.frozen? ⟨G, 4, none⟩ = false
theorem GB.five {W : World} {G : Nat} {t : TypeId} {c : CondD} (h : GB W G t c.arr) : Five W G c :=
  ⟨h.cell 0, h.cell 1, h.cell 2, h.cell 3, h.cell 4, h.frozen 0, h.frozen 1, h.frozen 2, h.frozen 3, h.frozen 4⟩

end Go.Scout
namespace Go.Proofs.Ytlpbelhfpoilpaa
open Go.RowKit Go.Scout

set_option maxRecDepth 20000 in
set_option maxHeartbeats 8000000 in
theorem value_any (mb : Nat) (lo : Option Addr) (lc : Nat) (l : List Int) (W : World) (hm : MakerAt mb lo lc l W) (hl : ∀ x ∈ l, -9223372036854775808 ≤ x ∧ x ≤ 9223372036854775807) :
    Calls Try.prog 37 #[.pointer (some ⟨mb, 0, none⟩)] W fun e W' => ∃ v : Int, e = .returned (.int .i64 v) ∧ (v = 1073741824 ∨ (-1 ≤ v ∧ v ≤ 3)) ∧ MakerAt mb lo lc l W' ∧ Kept (fun b => b ≠ mb) W W' := by
  have hn1 := next_any mb lo lc l 6 W hm (by omega) hl
  go_enter Try.func37, Try.ntmps37
  go_wp2_with fail
  refine hn1.mono ?_
  rintro e W2 ⟨r1, rfl, hr1, hr1', hM2, hk2⟩
  clear hn1
  by_cases h5 : r1 = 5
  · have h5' : (r1 == 5) = true := by simpa using h5
    clear h5
    go_wp2
    go_ret
    exact ⟨_, rfl, .inl rfl, hM2, hk2⟩
  · have h5' : (r1 == 5) = false := by simpa using h5
    have hw : wrap64 (r1 - 1) = r1 - 1 := by unfold wrap64; omega
    have HR : Hid (-1 ≤ r1 - 1 ∧ r1 - 1 ≤ 3) := show _ ∧ _ by omega
    clear h5
    go_wp2
    go_ret
    exact ⟨_, rfl, .inr HR.out, hM2, hk2⟩

set_option maxRecDepth 20000 in
set_option maxHeartbeats 8000000 in
theorem cond_any (mb : Nat) (lo : Option Addr) (lc : Nat) (l : List Int) (n : Int) (W : World) (hm : MakerAt mb lo lc l W) (hl : ∀ x ∈ l, -9223372036854775808 ≤ x ∧ x ≤ 9223372036854775807) (hlo : ∀ a, lo = some a → a.block < W.heap.size) (hn : 0 < n) :
    Calls Try.prog 47 #[.pointer (some ⟨mb, 0, none⟩), .int .i64 n] W fun e W' => ∃ c : CondD, e = .returned (.agg c.arr) ∧ condB c n = true ∧ MakerAt mb lo lc l W' ∧ Kept (fun b => b ≠ mb) W W' := by
  have hmb := hm.lt
  have hM1 := hm.alloc (.cells cz.arr 46)
  have hG1 := GB.alloc W cz.arr 46
  have hk1 : Kept (fun b => b ≠ mb) W (W.alloc (.cells cz.arr 46)) := Kept.alloc _ _
  obtain ⟨W1, hW1⟩ : ∃ W1, W.alloc (.cells cz.arr 46) = W1 := ⟨_, rfl⟩
  rw [hW1] at hM1 hG1 hk1
  have HS1 : Hid (W1.heap.size = W.heap.size + 1) := show _ = _ by rw [← hW1]; simp
  have hn1 := next_any mb lo lc l 5 W1 hM1 (by omega) hl
  have hW1' : W.alloc (.cells #[.bool false, .int .i64 0, .int .i64 0, .bool false, .int .i64 0] 46) = W1 := hW1
  have HL : Hid _ := hl
  have HLO : Hid _ := hlo
  have hra : W.heap.size ≠ mb := by omega
  clear hl hlo hM1 hm hW1
  go_enter Try.func47, Try.ntmps47
  go_wp2_with fail
  refine hn1.mono ?_
  rintro e W2 ⟨r1, rfl, hr1, hr1', hM2, hk2⟩
  clear hW1' hn1
  have hn2 := next_any mb lo lc l n W2 hM2 hn HL.out
  obtain ⟨nt, hnt⟩ : ∃ nt, (r1 == 1) = nt := ⟨_, rfl⟩
  go_wp2_with fail
  refine hn2.mono ?_
  rintro e W3 ⟨lf, rfl, hlf, hlf', hM3, hk3⟩
  clear hn2
  have hs2 := hk2.size
  have hs3 := hk3.size
  have hkW3 : Kept (fun b => b ≠ mb) W W3 := (hk1.trans hk2).trans hk3
  have hGr3 : GB W3 W.heap.size 46 cz.arr := (hG1.keep hk2 hra).keep hk3 hra
  have hM4 := hM3.alloc (.cells (⟨nt, 0, lf, false, 0⟩ : CondD).arr 46)
  have hGc4 := GB.alloc W3 (⟨nt, 0, lf, false, 0⟩ : CondD).arr 46
  have hGr4 := hGr3.keep (Kept.alloc (s := fun _ => True) W3 (.cells (⟨nt, 0, lf, false, 0⟩ : CondD).arr 46)) trivial
  have hk4 := hkW3.trans (Kept.alloc (s := fun b => b ≠ mb) W3 (.cells (⟨nt, 0, lf, false, 0⟩ : CondD).arr 46))
  obtain ⟨W4, hW4⟩ : ∃ W4, W3.alloc (.cells (⟨nt, 0, lf, false, 0⟩ : CondD).arr 46) = W4 := ⟨_, rfl⟩
  rw [hW4] at hM4 hGc4 hGr4 hk4
  have HS4 : Hid (W4.heap.size = W3.heap.size + 1) := show _ = _ by rw [← hW4]; simp
  have hn3 := next_any mb lo lc l 6 W4 hM4 (by omega) HL.out
  have hW4' : W3.alloc (.cells #[.bool nt, .int .i64 0, .int .i64 lf, .bool false, .int .i64 0] 46) = W4 := hW4
  have hcb : W3.heap.size ≠ mb := by have := hM3.lt; omega
  have HCB : Hid (W.heap.size ≤ W3.heap.size ∧ W.heap.size ≠ W3.heap.size) := show _ ∧ _ by have := HS1.out; omega
  clear hM4 hM3 hM2 hGr3 hkW3 hG1 hk1 hk2 hk3 hW4 hs2 hs3
  have HW4 : Hid _ := hW4'
  clear hW4'
  go_wp2_with fail
  rw [HW4.out]
  refine hn3.mono ?_
  rintro e W5 ⟨r3, rfl, hr3, hr3', hM5, hk5⟩
  clear HW4 hn3
  have hGc5 := hGc4.keep hk5 hcb
  have hGr5 := hGr4.keep hk5 hra
  have hk5' := hk4.trans hk5
  have hlo3 : ∀ a, lo = some a → a.block ≠ W3.heap.size := fun a ha => by have := HLO.out a ha; have := HCB.out; omega
  have hlo0 : ∀ a, lo = some a → a.block ≠ W.heap.size := fun a ha => by have := HLO.out a ha; omega
  have HLO3 : Hid _ := hlo3
  have HLO0 : Hid _ := hlo0
  clear hGc4 hGr4 hk4 hk5 hlo3 hlo0
  have FIN : Hid (∀ (Wx : World) (c : CondD), GB Wx W.heap.size 46 cz.arr → MakerAt mb lo lc l Wx → Kept (fun b => b ≠ mb) W Wx →
      GB (((((Wx.setCell ⟨W.heap.size, 0, none⟩ (.bool c.not)).setCell ⟨W.heap.size, 1, none⟩ (.int .i64 c.op)).setCell ⟨W.heap.size, 2, none⟩ (.int .i64 c.left)).setCell ⟨W.heap.size, 3, none⟩ (.bool c.const)).setCell ⟨W.heap.size, 4, none⟩ (.int .i64 c.right)) W.heap.size 46 c.arr ∧
      MakerAt mb lo lc l (((((Wx.setCell ⟨W.heap.size, 0, none⟩ (.bool c.not)).setCell ⟨W.heap.size, 1, none⟩ (.int .i64 c.op)).setCell ⟨W.heap.size, 2, none⟩ (.int .i64 c.left)).setCell ⟨W.heap.size, 3, none⟩ (.bool c.const)).setCell ⟨W.heap.size, 4, none⟩ (.int .i64 c.right)) ∧
      Kept (fun b => b ≠ mb) W (((((Wx.setCell ⟨W.heap.size, 0, none⟩ (.bool c.not)).setCell ⟨W.heap.size, 1, none⟩ (.int .i64 c.op)).setCell ⟨W.heap.size, 2, none⟩ (.int .i64 c.left)).setCell ⟨W.heap.size, 3, none⟩ (.bool c.const)).setCell ⟨W.heap.size, 4, none⟩ (.int .i64 c.right))) := fun Wx c hG hM hK =>
    ⟨((((hG.set 0 _).set 1 _).set 2 _).set 3 _).set 4 _, ((((hM.set _ hra HLO0.out).set _ hra HLO0.out).set _ hra HLO0.out).set _ hra HLO0.out).set _ hra HLO0.out,
      ((((hK.set_new (Nat.le_refl _) _).set_new (Nat.le_refl _) _).set_new (Nat.le_refl _) _).set_new (Nat.le_refl _) _).set_new (Nat.le_refl _) _⟩
  have h03 : r3 = 0 ∨ r3 = 1 ∨ r3 = 2 ∨ r3 = 3 ∨ r3 = 4 ∨ r3 = 5 := by omega
  rcases h03 with rfl | rfl | rfl | rfl | rfl | rfl
  · have hn4 := next_any mb lo lc l n W5 hM5 hn HL.out
    go_wp2_with fail
    refine hn4.mono ?_
    rintro e W6 ⟨rt, rfl, hrt, hrt', hM6, hk6⟩
    clear hn4
    have g6 := hGc5.keep hk6 hcb
    have q4 := (GB.five g6).c4
    have p4 := (GB.five g6).f4
    have hGc7 : GB (W6.setCell ⟨W3.heap.size, 4, none⟩ (.int .i64 rt)) W3.heap.size 46 (⟨nt, 0, lf, false, rt⟩ : CondD).arr := g6.set 4 _
    have hGr7 : GB (W6.setCell ⟨W3.heap.size, 4, none⟩ (.int .i64 rt)) W.heap.size 46 cz.arr := (hGr5.keep hk6 hra).keep (s := fun b => b ≠ W3.heap.size) (Kept.setCell _ _ _ (fun h => h rfl)) HCB.out.2
    have hM7 := hM6.set (G := W3.heap.size) (i := 4) (.int .i64 rt) hcb HLO3.out
    have hk7 := (hk5'.trans hk6).set_new (G := W3.heap.size) (i := 4) HCB.out.1 (.int .i64 rt)
    have HB : Hid (condB ⟨nt, 0, lf, false, rt⟩ n = true) := show _ = _ by simp [condB]; try omega
    simp only at q4
    clear hGc5 hGr5 hM5 hk5' g6 hM6 hk6
    have hfin := FIN.out _ (⟨nt, 0, lf, false, rt⟩ : CondD) hGr7 hM7 hk7
    have HF : Hid _ := hfin
    have v := GB.five hGc7
    have v0 := v.c0
    have v1 := v.c1
    have v2 := v.c2
    have v3 := v.c3
    have v4 := v.c4
    have u := GB.five hGr7
    have u0 := u.c0
    have u1 := u.c1
    have u2 := u.c2
    have u3 := u.c3
    have u4 := u.c4
    have z0 := u.f0
    have z1 := u.f1
    have z2 := u.f2
    have z3 := u.f3
    have z4 := u.f4
    simp only [cz] at v0 v1 v2 v3 v4 u0 u1 u2 u3 u4
    clear hfin v u FIN
    go_wp2
    refine bodyPost_ret (results_cell_row rfl _ _ W.heap.size 46 (⟨nt, 0, lf, false, rt⟩ : CondD).arr (0, 0) _ rfl HF.out.1 Try.underlying46 rfl (by kernel_rfl)) rfl ?_
    exact ⟨(⟨nt, 0, lf, false, rt⟩ : CondD), rfl, HB.out, HF.out.2.1, HF.out.2.2⟩
  · have hn4 := next_any mb lo lc l n W5 hM5 hn HL.out
    go_wp2_with fail
    refine hn4.mono ?_
    rintro e W6 ⟨rt, rfl, hrt, hrt', hM6, hk6⟩
    clear hn4
    have g6 := hGc5.keep hk6 hcb
    have q4 := (GB.five g6).c4
    have p4 := (GB.five g6).f4
    have hGc7 : GB (W6.setCell ⟨W3.heap.size, 4, none⟩ (.int .i64 rt)) W3.heap.size 46 (⟨nt, 0, lf, false, rt⟩ : CondD).arr := g6.set 4 _
    have hGr7 : GB (W6.setCell ⟨W3.heap.size, 4, none⟩ (.int .i64 rt)) W.heap.size 46 cz.arr := (hGr5.keep hk6 hra).keep (s := fun b => b ≠ W3.heap.size) (Kept.setCell _ _ _ (fun h => h rfl)) HCB.out.2
    have hM7 := hM6.set (G := W3.heap.size) (i := 4) (.int .i64 rt) hcb HLO3.out
    have hk7 := (hk5'.trans hk6).set_new (G := W3.heap.size) (i := 4) HCB.out.1 (.int .i64 rt)
    have HB : Hid (condB ⟨nt, 0, lf, false, rt⟩ n = true) := show _ = _ by simp [condB]; try omega
    simp only at q4
    clear hGc5 hGr5 hM5 hk5' g6 hM6 hk6
    have hfin := FIN.out _ (⟨nt, 0, lf, false, rt⟩ : CondD) hGr7 hM7 hk7
    have HF : Hid _ := hfin
    have v := GB.five hGc7
    have v0 := v.c0
    have v1 := v.c1
    have v2 := v.c2
    have v3 := v.c3
    have v4 := v.c4
    have u := GB.five hGr7
    have u0 := u.c0
    have u1 := u.c1
    have u2 := u.c2
    have u3 := u.c3
    have u4 := u.c4
    have z0 := u.f0
    have z1 := u.f1
    have z2 := u.f2
    have z3 := u.f3
    have z4 := u.f4
    simp only [cz] at v0 v1 v2 v3 v4 u0 u1 u2 u3 u4
    clear hfin v u FIN
    go_wp2
    refine bodyPost_ret (results_cell_row rfl _ _ W.heap.size 46 (⟨nt, 0, lf, false, rt⟩ : CondD).arr (0, 0) _ rfl HF.out.1 Try.underlying46 rfl (by kernel_rfl)) rfl ?_
    exact ⟨(⟨nt, 0, lf, false, rt⟩ : CondD), rfl, HB.out, HF.out.2.1, HF.out.2.2⟩
  · have hn4 := next_any mb lo lc l n W5 hM5 hn HL.out
    go_wp2_with fail
    refine hn4.mono ?_
    rintro e W6 ⟨rt, rfl, hrt, hrt', hM6, hk6⟩
    clear hn4
    have g6 := hGc5.keep hk6 hcb
    have q4 := (GB.five g6).c4
    have p4 := (GB.five g6).f4
    have hGc7 : GB (W6.setCell ⟨W3.heap.size, 4, none⟩ (.int .i64 rt)) W3.heap.size 46 (⟨nt, 0, lf, false, rt⟩ : CondD).arr := g6.set 4 _
    have hGr7 : GB (W6.setCell ⟨W3.heap.size, 4, none⟩ (.int .i64 rt)) W.heap.size 46 cz.arr := (hGr5.keep hk6 hra).keep (s := fun b => b ≠ W3.heap.size) (Kept.setCell _ _ _ (fun h => h rfl)) HCB.out.2
    have hM7 := hM6.set (G := W3.heap.size) (i := 4) (.int .i64 rt) hcb HLO3.out
    have hk7 := (hk5'.trans hk6).set_new (G := W3.heap.size) (i := 4) HCB.out.1 (.int .i64 rt)
    have HB : Hid (condB ⟨nt, 0, lf, false, rt⟩ n = true) := show _ = _ by simp [condB]; try omega
    simp only at q4
    clear hGc5 hGr5 hM5 hk5' g6 hM6 hk6
    have hfin := FIN.out _ (⟨nt, 0, lf, false, rt⟩ : CondD) hGr7 hM7 hk7
    have HF : Hid _ := hfin
    have v := GB.five hGc7
    have v0 := v.c0
    have v1 := v.c1
    have v2 := v.c2
    have v3 := v.c3
    have v4 := v.c4
    have u := GB.five hGr7
    have u0 := u.c0
    have u1 := u.c1
    have u2 := u.c2
    have u3 := u.c3
    have u4 := u.c4
    have z0 := u.f0
    have z1 := u.f1
    have z2 := u.f2
    have z3 := u.f3
    have z4 := u.f4
    simp only [cz] at v0 v1 v2 v3 v4 u0 u1 u2 u3 u4
    clear hfin v u FIN
    go_wp2
    refine bodyPost_ret (results_cell_row rfl _ _ W.heap.size 46 (⟨nt, 0, lf, false, rt⟩ : CondD).arr (0, 0) _ rfl HF.out.1 Try.underlying46 rfl (by kernel_rfl)) rfl ?_
    exact ⟨(⟨nt, 0, lf, false, rt⟩ : CondD), rfl, HB.out, HF.out.2.1, HF.out.2.2⟩
  · have h3c := (GB.five hGc5).c3
    have h3f := (GB.five hGc5).f3
    have hGc6 : GB (W5.setCell ⟨W3.heap.size, 3, none⟩ (.bool true)) W3.heap.size 46 (⟨nt, 0, lf, true, 0⟩ : CondD).arr := hGc5.set 3 _
    have hGr6 : GB (W5.setCell ⟨W3.heap.size, 3, none⟩ (.bool true)) W.heap.size 46 cz.arr := hGr5.keep (s := fun b => b ≠ W3.heap.size) (Kept.setCell _ _ _ (fun h => h rfl)) HCB.out.2
    have hM6 := hM5.set (G := W3.heap.size) (i := 3) (.bool true) hcb HLO3.out
    have hk6 := hk5'.set_new (G := W3.heap.size) (i := 3) HCB.out.1 (.bool true)
    have hn4 := next_any mb lo lc l 5 _ hM6 (by omega) HL.out
    simp only at h3c
    go_wp2_with fail
    refine hn4.mono ?_
    rintro e W7 ⟨rt, rfl, hrt, hrt', hM7, hk7⟩
    clear hn4 hM6
    have hw : wrap64 (rt - 1) = rt - 1 := by unfold wrap64; omega
    have g7 := hGc6.keep hk7 hcb
    have q4 := (GB.five g7).c4
    have p4 := (GB.five g7).f4
    have hGc8 : GB (W7.setCell ⟨W3.heap.size, 4, none⟩ (.int .i64 (rt - 1))) W3.heap.size 46 (⟨nt, 0, lf, true, rt - 1⟩ : CondD).arr := g7.set 4 _
    have hGr8 : GB (W7.setCell ⟨W3.heap.size, 4, none⟩ (.int .i64 (rt - 1))) W.heap.size 46 cz.arr := (hGr6.keep hk7 hra).keep (s := fun b => b ≠ W3.heap.size) (Kept.setCell _ _ _ (fun h => h rfl)) HCB.out.2
    have hM8 := hM7.set (G := W3.heap.size) (i := 4) (.int .i64 (rt - 1)) hcb HLO3.out
    have hk8 := (hk6.trans hk7).set_new (G := W3.heap.size) (i := 4) HCB.out.1 (.int .i64 (rt - 1))
    have HB : Hid (condB ⟨nt, 0, lf, true, rt - 1⟩ n = true) := show _ = _ by simp [condB]; try omega
    simp only at q4
    clear hGc5 hGr5 hM5 hk5' g7 hM7 hk7 hGc6 hGr6 hk6 h3c h3f
    have hfin := FIN.out _ (⟨nt, 0, lf, true, (rt - 1)⟩ : CondD) hGr8 hM8 hk8
    have HF : Hid _ := hfin
    have v := GB.five hGc8
    have v0 := v.c0
    have v1 := v.c1
    have v2 := v.c2
    have v3 := v.c3
    have v4 := v.c4
    have u := GB.five hGr8
    have u0 := u.c0
    have u1 := u.c1
    have u2 := u.c2
    have u3 := u.c3
    have u4 := u.c4
    have z0 := u.f0
    have z1 := u.f1
    have z2 := u.f2
    have z3 := u.f3
    have z4 := u.f4
    simp only [cz] at v0 v1 v2 v3 v4 u0 u1 u2 u3 u4
    clear hfin v u FIN
    go_wp2
    refine bodyPost_ret (results_cell_row rfl _ _ W.heap.size 46 (⟨nt, 0, lf, true, (rt - 1)⟩ : CondD).arr (0, 0) _ rfl HF.out.1 Try.underlying46 rfl (by kernel_rfl)) rfl ?_
    exact ⟨(⟨nt, 0, lf, true, (rt - 1)⟩ : CondD), rfl, HB.out, HF.out.2.1, HF.out.2.2⟩
  · have h1c := (GB.five hGc5).c1
    have h1f := (GB.five hGc5).f1
    have hGc6 : GB (W5.setCell ⟨W3.heap.size, 1, none⟩ (.int .i64 1)) W3.heap.size 46 (⟨nt, 1, lf, false, 0⟩ : CondD).arr := hGc5.set 1 _
    have hGr6 : GB (W5.setCell ⟨W3.heap.size, 1, none⟩ (.int .i64 1)) W.heap.size 46 cz.arr := hGr5.keep (s := fun b => b ≠ W3.heap.size) (Kept.setCell _ _ _ (fun h => h rfl)) HCB.out.2
    have hM6 := hM5.set (G := W3.heap.size) (i := 1) (.int .i64 1) hcb HLO3.out
    have hk6 := hk5'.set_new (G := W3.heap.size) (i := 1) HCB.out.1 (.int .i64 1)
    have hn4 := next_any mb lo lc l n _ hM6 hn HL.out
    simp only at h1c
    go_wp2_with fail
    refine hn4.mono ?_
    rintro e W7 ⟨rt, rfl, hrt, hrt', hM7, hk7⟩
    clear hn4 hM6
    have g7 := hGc6.keep hk7 hcb
    have q4 := (GB.five g7).c4
    have p4 := (GB.five g7).f4
    have hGc8 : GB (W7.setCell ⟨W3.heap.size, 4, none⟩ (.int .i64 rt)) W3.heap.size 46 (⟨nt, 1, lf, false, rt⟩ : CondD).arr := g7.set 4 _
    have hGr8 : GB (W7.setCell ⟨W3.heap.size, 4, none⟩ (.int .i64 rt)) W.heap.size 46 cz.arr := (hGr6.keep hk7 hra).keep (s := fun b => b ≠ W3.heap.size) (Kept.setCell _ _ _ (fun h => h rfl)) HCB.out.2
    have hM8 := hM7.set (G := W3.heap.size) (i := 4) (.int .i64 rt) hcb HLO3.out
    have hk8 := (hk6.trans hk7).set_new (G := W3.heap.size) (i := 4) HCB.out.1 (.int .i64 rt)
    have HB : Hid (condB ⟨nt, 1, lf, false, rt⟩ n = true) := show _ = _ by simp [condB]; try omega
    simp only at q4
    clear hGc5 hGr5 hM5 hk5' g7 hM7 hk7 hGc6 hGr6 hk6 h1c h1f
    have hfin := FIN.out _ (⟨nt, 1, lf, false, rt⟩ : CondD) hGr8 hM8 hk8
    have HF : Hid _ := hfin
    have v := GB.five hGc8
    have v0 := v.c0
    have v1 := v.c1
    have v2 := v.c2
    have v3 := v.c3
    have v4 := v.c4
    have u := GB.five hGr8
    have u0 := u.c0
    have u1 := u.c1
    have u2 := u.c2
    have u3 := u.c3
    have u4 := u.c4
    have z0 := u.f0
    have z1 := u.f1
    have z2 := u.f2
    have z3 := u.f3
    have z4 := u.f4
    simp only [cz] at v0 v1 v2 v3 v4 u0 u1 u2 u3 u4
    clear hfin v u FIN
    go_wp2
    refine bodyPost_ret (results_cell_row rfl _ _ W.heap.size 46 (⟨nt, 1, lf, false, rt⟩ : CondD).arr (0, 0) _ rfl HF.out.1 Try.underlying46 rfl (by kernel_rfl)) rfl ?_
    exact ⟨(⟨nt, 1, lf, false, rt⟩ : CondD), rfl, HB.out, HF.out.2.1, HF.out.2.2⟩
  · have h1c := (GB.five hGc5).c1
    have h1f := (GB.five hGc5).f1
    have hGc6 : GB (W5.setCell ⟨W3.heap.size, 1, none⟩ (.int .i64 2)) W3.heap.size 46 (⟨nt, 2, lf, false, 0⟩ : CondD).arr := hGc5.set 1 _
    have hGr6 : GB (W5.setCell ⟨W3.heap.size, 1, none⟩ (.int .i64 2)) W.heap.size 46 cz.arr := hGr5.keep (s := fun b => b ≠ W3.heap.size) (Kept.setCell _ _ _ (fun h => h rfl)) HCB.out.2
    have hM6 := hM5.set (G := W3.heap.size) (i := 1) (.int .i64 2) hcb HLO3.out
    have hk6 := hk5'.set_new (G := W3.heap.size) (i := 1) HCB.out.1 (.int .i64 2)
    have HB : Hid (condB ⟨nt, 2, lf, false, 0⟩ n = true) := show _ = _ by simp [condB]; try omega
    simp only at h1c
    clear hGc5 hGr5 hM5 hk5'
    have hfin := FIN.out _ (⟨nt, 2, lf, false, 0⟩ : CondD) hGr6 hM6 hk6
    have HF : Hid _ := hfin
    have v := GB.five hGc6
    have v0 := v.c0
    have v1 := v.c1
    have v2 := v.c2
    have v3 := v.c3
    have v4 := v.c4
    have u := GB.five hGr6
    have u0 := u.c0
    have u1 := u.c1
    have u2 := u.c2
    have u3 := u.c3
    have u4 := u.c4
    have z0 := u.f0
    have z1 := u.f1
    have z2 := u.f2
    have z3 := u.f3
    have z4 := u.f4
    simp only [cz] at v0 v1 v2 v3 v4 u0 u1 u2 u3 u4
    clear hfin v u FIN
    go_wp2
    refine bodyPost_ret (results_cell_row rfl _ _ W.heap.size 46 (⟨nt, 2, lf, false, 0⟩ : CondD).arr (0, 0) _ rfl HF.out.1 Try.underlying46 rfl (by kernel_rfl)) rfl ?_
    exact ⟨(⟨nt, 2, lf, false, 0⟩ : CondD), rfl, HB.out, HF.out.2.1, HF.out.2.2⟩

end Go.Proofs.Ytlpbelhfpoilpaa

namespace Go.Scout
open Go.RowKit

theorem allB_app {xs : List Int} {n p : Int} (h : allB xs n = true) (h0 : 0 ≤ p) (h1 : p < n) : allB (xs ++ [p]) n = true := by
  unfold allB at *
  rw [List.all_append, h]
  simp [h0, h1]

theorem any_succ {xs : List Int} {p : Int} {k : Nat} (hk : k < xs.length) : ((xs.take (k + 1)).any fun x => x == p) = (((xs.take k).any fun x => x == p) || (xs.getD k 0 == p)) := by
  rw [List.take_succ_eq_append_getElem hk, List.any_append]
  simp [List.getD, hk]

theorem apartB_app {xs : List Int} {p : Int} (h : apartB xs = true) (hp : (xs.any fun x => x == p) = false) : apartB (xs ++ [p]) = true := by
  unfold apartB at *
  rw [decide_eq_true_eq] at *
  intro i hi j hj
  rw [List.length_append, List.length_singleton] at hi
  have hg : ∀ m, m < xs.length → (xs ++ [p]).getD m 0 = xs.getD m 0 := fun m hm => by simp [List.getD, List.getElem?_append, hm]
  by_cases hl : i < xs.length
  · rw [hg i hl, hg j (by omega)]
    exact h i hl j hj
  · have hi' : i = xs.length := by omega
    subst hi'
    rw [hg j hj]
    have hl2 : (xs ++ [p]).getD xs.length 0 = p := by simp [List.getD]
    rw [hl2]
    intro e
    rw [List.any_eq_false] at hp
    have hm : xs.getD j 0 ∈ xs := by simp [List.getD, hj]
    exact hp _ hm (by rw [← e]; simp)

theorem MakerAt.grown {mb : Nat} {lo : Option Addr} {lc : Nat} {l : List Int} {A B : World} (h : MakerAt mb lo lc l A) {row : Option Nat} (hg : A.grownBy B row) (h1 : row ≠ some mb) (h2 : ∀ a, lo = some a → row ≠ some a.block) : MakerAt mb lo lc l B := by
  have hk : Kept (fun b => row ≠ some b) A B := Kept.grown hg (fun r e h => h e)
  obtain ⟨k, hk1, hk2⟩ := h.num
  exact ⟨⟨k, hk1, cell_keep hk2 hk h1⟩, cell_keep h.lst hk h1, (World.frozen?_of_block (a := ⟨mb, 1, none⟩) (hk.block mb h.lt h1)).trans h.thaw, ⟨h.ints.1, h.ints.2.keep fun a ha hlt => hk.block _ hlt (h2 a ha)⟩, h.off⟩

end Go.Scout
namespace Go.Proofs.Ytlpbelhfpoilpaa
open Go.RowKit Go.Scout

set_option maxRecDepth 20000 in
set_option maxHeartbeats 8000000 in
theorem places_any (mb : Nat) (lo : Option Addr) (lc : Nat) (l : List Int) (n : Int) (most : Nat) (W : World) (hm : MakerAt mb lo lc l W) (hl : ∀ x ∈ l, -9223372036854775808 ≤ x ∧ x ≤ 9223372036854775807) (hlo : ∀ a, lo = some a → a.block < W.heap.size) (hn : 0 < n) (hmo : most ≤ 100) :
    Calls Try.prog 48 #[.pointer (some ⟨mb, 0, none⟩), .int .i64 n, .int .i64 most] W fun e W' => ∃ (v : Value) (xs : List Int), e = .returned v ∧ W'.ownsRow W.heap.size 3 1 v xs.length (xs.map (Value.int .i64)) ∧ allB xs n = true ∧ apartB xs = true ∧ xs.length ≤ most ∧ MakerAt mb lo lc l W' ∧ Kept (fun b => b ≠ mb) W W' := by
  obtain ⟨i0, hi, hz0, hz1, hz2⟩ := info_parts Try.infoInt
  have hmb := hm.lt
  have hn1 := next_any mb lo lc l ((most : Int) + 1) W hm (by omega) hl
  have hw1 : wrap64 ((most : Int) + 1) = (most : Int) + 1 := by unfold wrap64; omega
  have HL : Hid _ := hl
  have HLO : Hid _ := hlo
  clear hl hlo hm
  go_enter Try.func48, Try.ntmps48
  go_wp2_with fail
  refine hn1.mono ?_
  rintro e W2 ⟨r1, rfl, hr1, hr1', hM2, hk2⟩
  obtain ⟨k1, rfl⟩ : ∃ k : Nat, r1 = (k : Int) := ⟨r1.toNat, by omega⟩
  clear hn1 hw1
  go_wp2
  go_loopw [7, 8] (fun v i wr => ∃ (k : Nat) (xs : List Int), i = .int .i64 k ∧ xs.length + k ≤ most ∧ wr.ownsRow W.heap.size 3 1 v xs.length (xs.map (Value.int .i64)) ∧ Hid (allB xs n = true ∧ apartB xs = true) ∧ MakerAt mb lo lc l wr ∧ Kept (fun b => b ≠ mb) W wr) (fun _ i _ => (intOf i).toNat)
  case atStart => exact ⟨k1, [], rfl, by simp; omega, World.ownsRow_nil _ _ _ _, ⟨rfl, rfl⟩, hM2, hk2⟩
  case round =>
    obtain ⟨k, xs, rfl, hkm, hown, hok, hM, hK⟩ := hrel
    clear hM2 hk2
    by_cases h0 : 0 < k
    · have hgt : ((k : Int) > 0) := by omega
      have hn2 := next_any mb lo lc l n wr hM hn HL.out
      go_wp2_with fail
      refine hn2.mono ?_
      rintro e W3 ⟨p, rfl, hp0, hp1, hM3, hk3⟩
      clear hn2
      have hown3 := ownsRow_keep hown hk3 (fun g hg => by have := (ownsRow_lt hown hg).1; omega)
      have hk3' := hK.trans hk3
      obtain ⟨iv, hiv, hivx, hivat, -⟩ := rowEl_of_own hown3 (by omega)
      obtain ⟨iad, icap, ixs⟩ := iv
      simp only at hivx
      subst hivx
      unfold IntsV.val at hiv
      simp only at hiv
      subst hiv
      have hints := hivat.1
      have HI : Hid _ := hints
      clear hown hM hK hivat hints
      go_wp2
      go_loopw [10, 11] (fun tw i ws => ∃ (m : Nat), m ≤ ixs.length ∧ i = .int .i64 m ∧ tw = .bool ((ixs.take m).any fun x => x == p) ∧ W3 = ws) (fun _ i _ => ixs.length - (intOf i).toNat)
      case atStart => exact ⟨0, Nat.zero_le _, rfl, rfl, rfl⟩
      case round =>
        obtain ⟨m, hm, rfl, rfl, rfl⟩ := hrel
        by_cases hml : m < ixs.length
        · obtain ⟨b, off, rfl, hcs⟩ := HI.out.get hml
          have hcm := hcs m hml
          have HS : Hid _ := any_succ (p := p) hml
          generalize ixs.getD m 0 = y at *
          generalize ((ixs.take m).any fun x => x == p) = tw at *
          clear hcs
          cases tw with
          | true =>
            go_wp2
            go_roundw
            case rel => exact ⟨m + 1, by omega, by go_num, by rw [HS.out]; rfl, trivial⟩
            case measure => simp [intOf]; omega
          | false =>
            go_wp2
            go_roundw
            case rel => exact ⟨m + 1, by omega, by go_num, by rw [HS.out]; simp, trivial⟩
            case measure => simp [intOf]; omega
        · have hmm : m = ixs.length := by omega
          subst hmm
          rw [List.take_length]
          have hsz := hk3'.size
          have HM3 : Hid _ := hM3
          cases htw : (ixs.any fun x => x == p) with
          | true =>
            have hw2 : wrap64 (((k : Int)) - 1) = ((k - 1 : Nat) : Int) := by unfold wrap64; omega
            have HW2 : Hid _ := hw2
            have HO3 : Hid _ := hown3
            clear hw2 hown3
            go_wp2
            go_roundw
            case rel => exact ⟨k - 1, ixs, congrArg (Value.int .i64) (show _ = ((k - 1 : Nat) : Int) by omega), by omega, HO3.out, hok, HM3.out, hk3'⟩
            case measure => simp [intOf]; omega
          | false =>
            have HO3 : Hid _ := hown3
            go_wp2_with (first | (at_builtin; refine wpList_append_own _ rfl _ _ 23 rfl W.heap.size 3 i0 (.int .i64 0) 1 8 Try.underlying23 hi hz0 hz1 hz2 rfl (by decide) _ _ _ rfl (hown3.alloc _) ⟨W3.heap.size, 0, none⟩ 1 1 [.int .i64 p] rfl rfl ?q1 ?q2 ?q3 ?q4 ?q5 ?_))
            case q1 =>
              intro j u hj
              match j, hj with
              | 0, hj => simp at hj; subst hj; simp [Addr.add]
            case q2 => intro u hu; simp at hu; subst hu; rfl
            case q3 => unfold maxLen; omega
            case q4 => omega
            case q5 => simp; omega
            intro v' w1 hown1 hgrow1 _
            have hob : ∀ g, (Value.slice iad ixs.length icap).ownBlock = some g → W.heap.size ≤ g := fun g hg => (ownsRow_lt HO3.out hg).1
            have hMa := (MakerAt.alloc HM3.out (.cells #[.int .i64 p] 3)).grown hgrow1 (fun e => by have := hob _ e; omega) (fun a ha e => by have := hob _ e; have := HLO.out a ha; omega)
            have hKa : Kept (fun b => b ≠ mb) W w1 := by
              have h1 : Kept (fun b => b ≠ mb) W (W3.alloc (.cells #[.int .i64 p] 3)) := hk3'.trans (Kept.alloc _ _)
              exact ((h1.mono (t := fun b => b ≠ mb ∧ b < W.heap.size) (fun b _ h => h.1)).trans (Kept.grown hgrow1 (fun r e h => by have := hob r e; have := h.2; omega))).mono (fun b hb h => ⟨h, hb⟩)
            have HO1 : Hid _ := hown1
            have HMa : Hid _ := hMa
            have HKa : Hid _ := hKa
            clear hown1 hgrow1 hown3 hMa hKa
            go_wp2
            go_roundw
            case rel => exact ⟨k - 1, ixs ++ [p], congrArg (Value.int .i64) (show _ = ((k - 1 : Nat) : Int) by omega), by rw [List.length_append, List.length_singleton]; omega, by rw [List.length_append, List.map_append]; exact HO1.out, ⟨allB_app hok.out.1 hp0 hp1, apartB_app hok.out.2 htw⟩, HMa.out, HKa.out⟩
            case measure => simp [intOf]; omega
    · have hk0 : k = 0 := by omega
      subst hk0
      go_wp2
      go_ret
      exact ⟨_, xs, rfl, hown, hok.out.1, hok.out.2, by omega, hM, hK⟩

end Go.Proofs.Ytlpbelhfpoilpaa

namespace Go.Scout
open Go.RowKit

theorem MakerAt.keepN {mb : Nat} {lo : Option Addr} {lc : Nat} {l : List Int} {A B : World} {s : Nat → Prop} (h : MakerAt mb lo lc l A) (hk : Kept s A B) (h1 : s mb) (h2 : ∀ a, lo = some a → s a.block) : MakerAt mb lo lc l B := by
  obtain ⟨k, hk1, hk2⟩ := h.num
  exact ⟨⟨k, hk1, cell_keep hk2 hk h1⟩, cell_keep h.lst hk h1, (World.frozen?_of_block (a := ⟨mb, 1, none⟩) (hk.block mb h.lt h1)).trans h.thaw, ⟨h.ints.1, h.ints.2.keep fun a ha hlt => hk.block _ hlt (h2 a ha)⟩, h.off⟩

end Go.Scout
namespace Go.Scout
open Go.RowKit

/-- What a case holds. -/
def caseA (cv : Value) (q : QueryV) (dv : Value) : Array Value := #[cv, q.src.val, .slice q.wad q.wh.length q.wcap, .bool q.group, q.keys.val, q.sums.val, q.sel.val, q.ord.val, dv]

end Go.Scout
namespace Go.Proofs.Ytlpbelhfpoilpaa
open Go.RowKit Go.Scout

set_option maxRecDepth 20000 in
set_option maxHeartbeats 8000000 in
theorem columns_any (co : Option Addr) (cc : Nat) (ts : List TableD) (q : QueryV) (dv : Value) (hdv : ∃ a m c, dv = .slice a m c) (w : World) (hx : TablesAt w co ts) (hc : catB ts = true) (hq : q.src.At w) (h5 : q.src.xs.length ≤ 5) (ha : allB q.src.xs ts.length = true) :
    Calls Try.prog 12 #[.agg (caseA (.slice co ts.length cc) q dv)] w fun e w' => e = .returned (.int .i64 (widthN ts q.src.xs)) ∧ Below w.heap.size w w' := by
  obtain ⟨da, dm, dc, rfl⟩ := hdv
  obtain ⟨⟨sad, scap, xs⟩, wad, wcap, wh, group, keys, sums, sel, ord⟩ := q
  unfold IntsV.At at hq
  simp only at h5 ha hq
  unfold caseA IntsV.val
  simp only
  have hl := hx.1
  have HC : Hid (catB ts = true) := hc
  have HA : Hid (allB xs ts.length = true) := ha
  have hb := below_alloc w (.cells #[.slice co ts.length cc, .slice sad xs.length scap, .slice wad wh.length wcap, .bool group, .slice keys.ad keys.xs.length keys.cap, .slice sums.ad sums.xs.length sums.cap, .slice sel.ad sel.xs.length sel.cap, .slice ord.ad ord.xs.length ord.cap, .slice da dm dc] 41)
  have hX := hx.below hb
  have hQ := IntsAt.below hb hq
  have c0 : (w.alloc (.cells #[.slice co ts.length cc, .slice sad xs.length scap, .slice wad wh.length wcap, .bool group, .slice keys.ad keys.xs.length keys.cap, .slice sums.ad sums.xs.length sums.cap, .slice sel.ad sel.xs.length sel.cap, .slice ord.ad ord.xs.length ord.cap, .slice da dm dc] 41)).cell? ⟨w.heap.size, 0, none⟩ = some (.slice co ts.length cc) := by simp
  have c1 : (w.alloc (.cells #[.slice co ts.length cc, .slice sad xs.length scap, .slice wad wh.length wcap, .bool group, .slice keys.ad keys.xs.length keys.cap, .slice sums.ad sums.xs.length sums.cap, .slice sel.ad sel.xs.length sel.cap, .slice ord.ad ord.xs.length ord.cap, .slice da dm dc] 41)).cell? ⟨w.heap.size, 1, none⟩ = some (.slice sad xs.length scap) := by simp
  have HB : Hid _ := hb
  clear hc ha hx hq hb
  go_enter Try.func12, Try.ntmps12
  go_wp2
  obtain ⟨w1, hw1⟩ : ∃ w1, w.alloc (.cells #[.slice co ts.length cc, .slice sad xs.length scap, .slice wad wh.length wcap, .bool group, .slice keys.ad keys.xs.length keys.cap, .slice sums.ad sums.xs.length sums.cap, .slice sel.ad sel.xs.length sel.cap, .slice ord.ad ord.xs.length ord.cap, .slice da dm dc] 41) = w1 := ⟨_, rfl⟩
  rw [hw1] at HB hX hQ c0 c1
  rw [hw1]
  clear hw1
  go_loopw [3, 4] (fun n i wr => ∃ k : Nat, k ≤ xs.length ∧ i = .int .i64 k ∧ n = .int .i64 (widthN ts (xs.take k)) ∧ Below w1.heap.size w1 wr) (fun _ i _ => xs.length - (intOf i).toNat)
  case atStart => exact ⟨0, Nat.zero_le _, rfl, rfl, Below.refl _ _⟩
  case round =>
    obtain ⟨k, hk, rfl, rfl, hbr⟩ := hrel
    have hbd := widthN_bd HC.out HA.out k hk
    have d0 := cell_below hbr c0
    have d1 := cell_below hbr c1
    by_cases hlt : k < xs.length
    · obtain ⟨sb, soff, rfl, hs⟩ := hQ.get hlt
      have hsk := cell_below hbr (hs k hlt)
      have hr := allB_at HA.out hlt
      have hcol := cols_of HC.out (i := xs[k].toNat) (by omega)
      obtain ⟨b, off, rfl, t0, -⟩ := hX.2 xs[k].toNat (by omega)
      have hck := cell_below hbr t0
      have HS : Hid (widthN ts (xs.take (k + 1)) = widthN ts (xs.take k) + (ts.getD xs[k].toNat tz).cols) := widthN_snoc ts xs k hlt
      generalize (ts.getD xs[k].toNat tz).cols = cl at *
      generalize widthN ts (xs.take k) = W0 at *
      have e1 : xs.getD k 0 = xs[k] := by simp [List.getD, hlt]
      rw [e1] at hsk
      clear hs t0 hX hQ e1
      generalize hxk : xs[k] = xk at *
      clear hxk
      obtain ⟨xn, rfl⟩ : ∃ xn : Nat, xk = (xn : Int) := ⟨xk.toNat, by omega⟩
      simp only [Int.toNat_natCast] at hck
      have hxl : xn < ts.length := by omega
      have hwr : wrap64 (W0 + cl) = W0 + cl := by unfold wrap64; omega
      go_wp2
      go_quiet (fail)
      go_wp2
      go_roundw
      case rel => exact ⟨k + 1, by omega, by go_num, by rw [HS.out], below_drewN hbr _⟩
      case measure => simp [intOf]; omega
    · go_wp2
      go_ret
      have : k = xs.length := by omega
      subst this
      exact ⟨ret_int (by rw [List.take_length]), HB.out.trans (hbr.mono HB.out.size)⟩

end Go.Proofs.Ytlpbelhfpoilpaa

namespace Go.Scout
open Go.RowKit

theorem catB_len {ts : List TableD} (h : catB ts = true) : 1 ≤ ts.length ∧ ts.length ≤ 8 := by
  unfold catB at h
  simp only [Bool.and_eq_true, decide_eq_true_eq] at h
  exact h.1

theorem widthN_pos {ts : List TableD} {xs : List Int} (hc : catB ts = true) (ha : allB xs ts.length = true) (h1 : 1 ≤ xs.length) (h5 : xs.length ≤ 5) : 1 ≤ widthN ts xs ∧ widthN ts xs ≤ 20 := by
  have hcol : ∀ t ∈ xs, 1 ≤ (ts.getD t.toNat tz).cols ∧ (ts.getD t.toNat tz).cols ≤ 4 := fun t ht => by
    unfold allB at ha
    rw [List.all_eq_true] at ha
    have := ha t ht
    simp only [Bool.and_eq_true, decide_eq_true_eq] at this
    exact cols_of hc (i := t.toNat) (by omega)
  have hg : ∀ l : List Int, (∀ t ∈ l, 1 ≤ (ts.getD t.toNat tz).cols ∧ (ts.getD t.toNat tz).cols ≤ 4) → (l.length : Int) ≤ widthN ts l ∧ widthN ts l ≤ 4 * l.length := by
    intro l
    induction l with
    | nil => intro _; simp [widthN]
    | cons a l ih =>
      intro h
      have h1 := ih (fun t ht => h t (by simp [ht]))
      have h2 := h a (by simp)
      have h3 : widthN ts (a :: l) = (ts.getD a.toNat tz).cols + widthN ts l := by simp [widthN]
      rw [h3, List.length_cons]
      omega
  have := hg xs hcol
  omega

def vz : IntsV := ⟨none, 0, []⟩
def qz : QueryV := ⟨vz, none, 0, [], false, vz, vz, vz, vz⟩

/-- A list of numbers that grows in a field of a struct, while numbers are made. -/
structure Growing (mb qb : Nat) (lo : Option Addr) (lc : Nat) (l : List Int) (e tq : TypeId) (W0 : World) (c : Value → Array Value) (W : World) (v : Value) (xs : List Int) : Prop where
  gb : GB W qb tq (c v)
  own : W.ownsRow W0.heap.size e 1 v xs.length (xs.map (Value.int .i64))
  mkr : MakerAt mb lo lc l W
  kept : Kept (fun b => b ≠ mb ∧ b ≠ qb) W0 W

theorem Growing.keep {mb qb : Nat} {lo : Option Addr} {lc : Nat} {l : List Int} {e tq : TypeId} {W0 : World} {c : Value → Array Value} {A B : World} {v : Value} {xs : List Int} (h : Growing mb qb lo lc l e tq W0 c A v xs) (hk : Kept (fun b => b ≠ mb) A B) (hm : MakerAt mb lo lc l B)
    (hq : qb ≠ mb) (hmb : mb < W0.heap.size) : Growing mb qb lo lc l e tq W0 c B v xs :=
  ⟨h.gb.keep hk hq, ownsRow_keep h.own hk (fun g hg => by have := (ownsRow_lt h.own hg).1; omega), hm, h.kept.trans (hk.mono fun b _ h => h.1)⟩

theorem Growing.more {mb qb : Nat} {lo : Option Addr} {lc : Nat} {l : List Int} {e tq : TypeId} {W0 : World} {c : Value → Array Value} {A A1 B : World} {v v' : Value} {xs : List Int} (h : Growing mb qb lo lc l e tq W0 c A v xs) {f : Nat} {p : Int}
    (ha : Kept (fun _ => True) A A1) (hown : B.ownsRow W0.heap.size e 1 v' (xs.length + 1) (xs.map (Value.int .i64) ++ [.int .i64 p])) (hg : A1.grownBy B v.ownBlock) (hc : (c v).setIfInBounds f v' = c v')
    (hq : qb ≠ mb) (hmb : mb < W0.heap.size) (hqb : qb < W0.heap.size) (hlo : ∀ a, lo = some a → a.block < W0.heap.size ∧ a.block ≠ qb) :
    Growing mb qb lo lc l e tq W0 c (B.setCell ⟨qb, f, none⟩ v') v' (xs ++ [p]) := by
  have hvb : ∀ g, v.ownBlock = some g → W0.heap.size ≤ g := fun g hg => (ownsRow_lt h.own hg).1
  have hvb' : ∀ g, v'.ownBlock = some g → W0.heap.size ≤ g := fun g hg => (ownsRow_lt hown hg).1
  have hk1 : Kept (fun b => v.ownBlock ≠ some b) A B := (ha.mono fun _ _ _ => trivial).trans (Kept.grown hg (fun r e hr => hr e))
  have hk2 : Kept (fun b => v.ownBlock ≠ some b ∧ b ≠ qb) A (B.setCell ⟨qb, f, none⟩ v') := (hk1.mono fun _ _ h => h.1).trans (Kept.setCell _ _ _ (fun h => h.2 rfl))
  refine ⟨?_, ?_, ?_, ?_⟩
  · have hgB : GB B qb tq (c v) := h.gb.keep hk1 (fun e => by have := hvb _ e; omega)
    have := hgB.set f v'
    rwa [hc] at this
  · have := ownsRow_keep hown (s := fun b => b ≠ qb) (Kept.setCell B ⟨qb, f, none⟩ v' (fun h => h rfl)) (fun g hg => by have := hvb' g hg; omega)
    simpa using this
  · exact h.mkr.keepN hk2 ⟨fun e => by have := hvb _ e; omega, Ne.symm hq⟩ (fun a ha => ⟨fun e => by have := hvb _ e; have := (hlo a ha).1; omega, (hlo a ha).2⟩)
  · exact ((h.kept.mono (t := fun b => (b ≠ mb ∧ b ≠ qb) ∧ b < W0.heap.size) (fun b _ h => h.1)).trans (hk2.mono fun b _ h => ⟨fun e => by have := hvb _ e; have := h.2; omega, h.1.2⟩)).mono (fun b hb h => ⟨h, hb⟩)

theorem Growing.far {mb qb : Nat} {lo : Option Addr} {lc : Nat} {l : List Int} {e tq : TypeId} {W0 : World} {c : Value → Array Value} {A A1 B : World} {v : Value} {xs : List Int} (h : Growing mb qb lo lc l e tq W0 c A v xs)
    (ha : Kept (fun _ => True) A A1) (hg : A1.grownBy B v.ownBlock) : Kept (fun b => b < W0.heap.size) A B :=
  (ha.mono fun _ _ _ => trivial).trans (Kept.grown hg (fun r e hr => by have := (ownsRow_lt h.own e).1; omega))

theorem TablesAt.keep {A B : World} {ao : Option Addr} {ts : List TableD} (h : TablesAt A ao ts) (hb : ∀ a, ao = some a → a.block < A.heap.size → B.heap[a.block]? = A.heap[a.block]?) : TablesAt B ao ts := by
  refine ⟨h.1, fun i hi => ?_⟩
  obtain ⟨b, off, rfl, h0, h1, h2, h3, h4, h5⟩ := h.2 i hi
  have hl : b < A.heap.size := cell_lt (p := ⟨b, off + i * 6, none⟩) h0
  have hbk := hb ⟨b, off, none⟩ rfl hl
  exact ⟨b, off, rfl, (World.cell?_of_block (a := ⟨b, off + i * 6, none⟩) hbk).trans h0, (World.cell?_of_block (a := ⟨b, off + i * 6 + 1, none⟩) hbk).trans h1, (World.cell?_of_block (a := ⟨b, off + i * 6 + 2, none⟩) hbk).trans h2,
    (World.cell?_of_block (a := ⟨b, off + i * 6 + 3, none⟩) hbk).trans h3, (World.cell?_of_block (a := ⟨b, off + i * 6 + 4, none⟩) hbk).trans h4, (World.cell?_of_block (a := ⟨b, off + i * 6 + 5, none⟩) hbk).trans h5⟩
theorem CondsAt.keep {A B : World} {ao : Option Addr} {cs : List CondD} (h : CondsAt A ao cs) (hb : ∀ a, ao = some a → a.block < A.heap.size → B.heap[a.block]? = A.heap[a.block]?) : CondsAt B ao cs := by
  refine ⟨h.1, fun i hi => ?_⟩
  obtain ⟨b, off, rfl, h0, h1, h2, h3, h4⟩ := h.2 i hi
  have hl : b < A.heap.size := cell_lt (p := ⟨b, off + i * 5, none⟩) h0
  have hbk := hb ⟨b, off, none⟩ rfl hl
  exact ⟨b, off, rfl, (World.cell?_of_block (a := ⟨b, off + i * 5, none⟩) hbk).trans h0, (World.cell?_of_block (a := ⟨b, off + i * 5 + 1, none⟩) hbk).trans h1, (World.cell?_of_block (a := ⟨b, off + i * 5 + 2, none⟩) hbk).trans h2,
    (World.cell?_of_block (a := ⟨b, off + i * 5 + 3, none⟩) hbk).trans h3, (World.cell?_of_block (a := ⟨b, off + i * 5 + 4, none⟩) hbk).trans h4⟩

/-- A list of a query, in a block from n on. -/
def ListIn (n : Nat) (x : IntsV) (S : World) : Prop := rowEl.At x S ∧ (∀ b, rowEl.blk x = some b → n ≤ b) ∧ x.xs.length ≤ x.cap
theorem ListIn.keep {n : Nat} {x : IntsV} {A B : World} {s : Nat → Prop} (h : ListIn n x A) (hk : Kept s A B) (hs : ∀ b, n ≤ b → s b) : ListIn n x B :=
  ⟨rowEl.keep h.1 hk.size (fun b hb hx => hk.block b hb (hs b (h.2.1 b hx))), h.2.1, h.2.2⟩
theorem ListIn.nil (n : Nat) (S : World) : ListIn n vz S :=
  ⟨⟨⟨by simp [vz], fun i hi => absurd hi (by simp [vz])⟩, (fun a ha => by cases ha), fun _ => rfl⟩, (fun b hb => by cases hb), by simp [vz]⟩
theorem listIn_of_own {w : World} {base n : Nat} {e : TypeId} {v : Value} {k : Nat} {xs : List Int} (h : w.ownsRow base e 1 v k (xs.map (Value.int .i64))) (hl : xs.length ≤ 1000) (hb : n ≤ base) : ∃ iv : IntsV, v = iv.val ∧ iv.xs = xs ∧ ListIn n iv w := by
  obtain ⟨iv, hv, hx, hat, hbb⟩ := rowEl_of_own h (by omega)
  refine ⟨iv, hv, hx, hat, fun b hb' => Nat.le_trans hb (hbb b hb'), ?_⟩
  have hn : xs.length = k := by have := h.1; simpa using this
  rcases h.2 with ⟨hv', h0⟩ | ⟨g, cap, cur, hv', _, _, hc, _⟩
  · rw [hx]; omega
  · rw [hv] at hv'
    unfold IntsV.val at hv'
    injection hv' with h1 h2 h3
    omega

/-- The clauses of a query, in blocks from n on. -/
def WhereIn (n : Nat) (ad : Option Addr) (ls : List ClauseV) (S : World) : Prop :=
  ClausesAt S ad ls ∧ (∀ a, ad = some a → n ≤ a.block) ∧ ∀ i, i < ls.length → ∀ a, (ls.getD i lz).ad = some a → n ≤ a.block
theorem WhereIn.keep {n : Nat} {ad : Option Addr} {ls : List ClauseV} {A B : World} {s : Nat → Prop} (h : WhereIn n ad ls A) (hk : Kept s A B) (hs : ∀ b, n ≤ b → s b) : WhereIn n ad ls B :=
  ⟨⟨h.1.1, h.1.2.1.keep fun a ha hlt => hk.block _ hlt (hs _ (h.2.1 a ha)), fun i hi => (h.1.2.2 i hi).keep fun a ha hlt => hk.block _ hlt (hs _ (h.2.2 i hi a ha))⟩, h.2.1, h.2.2⟩

/-- All lists of a query. -/
structure ListsIn (n : Nat) (q : QueryV) (S : World) : Prop where
  src : ListIn n q.src S
  wh : WhereIn n q.wad q.wh S
  keys : ListIn n q.keys S
  sums : ListIn n q.sums S
  sel : ListIn n q.sel S
  ord : ListIn n q.ord S
  nil : q.wad = none → q.wcap = 0
theorem ListsIn.keep {n : Nat} {q : QueryV} {A B : World} {s : Nat → Prop} (h : ListsIn n q A) (hk : Kept s A B) (hs : ∀ b, n ≤ b → s b) : ListsIn n q B :=
  ⟨h.src.keep hk hs, h.wh.keep hk hs, h.keys.keep hk hs, h.sums.keep hk hs, h.sel.keep hk hs, h.ord.keep hk hs, h.nil⟩
theorem ListIn.lower {n m : Nat} {x : IntsV} {S : World} (h : ListIn n x S) (hm : m ≤ n) : ListIn m x S := ⟨h.1, fun b hb => Nat.le_trans hm (h.2.1 b hb), h.2.2⟩
theorem ListsIn.lower {n m : Nat} {q : QueryV} {S : World} (h : ListsIn n q S) (hm : m ≤ n) : ListsIn m q S :=
  ⟨h.src.lower hm, ⟨h.wh.1, fun a ha => Nat.le_trans hm (h.wh.2.1 a ha), fun i hi a ha => Nat.le_trans hm (h.wh.2.2 i hi a ha)⟩, h.keys.lower hm, h.sums.lower hm, h.sel.lower hm, h.ord.lower hm, h.nil⟩
theorem ListsIn.at' {n : Nat} {q : QueryV} {S : World} (h : ListsIn n q S) : q.At S := ⟨h.src.1.1, h.wh.1, h.keys.1.1, h.sums.1.1, h.sel.1.1, h.ord.1.1⟩

end Go.Scout

