import Derived.Test.YtlpbelhfpoilpaaCKeAKeBKeC
set_option linter.all false
namespace Go.Proofs.Ytlpbelhfpoilpaa
open Go.RowKit Go.Scout

set_option maxRecDepth 100000 in
set_option maxHeartbeats 8000000 in
/-- Case.joined, where there was a clause's list. -/
theorem joined_some (co d : Option Addr) (cn cc dn dc : Nat) (q : QueryV) (xa : Addr) (nad : Option Addr) (ncap : Nat) (ncs : List CondD) (w : World) (hqa : q.wad = some xa) (hq : ClausesAt w q.wad q.wh) (hw8 : q.wh.length ≤ 8) (hn : CondsAt w nad ncs) :
    Calls Try.prog 15 #[.agg (caseA (.slice co cn cc) q (.slice d dn dc)), .slice nad ncs.length ncap] w fun e w' => ∃ (wad : Option Addr) (wcap : Nat), e = .returned (.agg (caseA (.slice co cn cc) { q with wad := wad, wcap := wcap, wh := q.wh ++ [⟨nad, ncap, ncs⟩] } (.slice d dn dc))) ∧ ClausesAt w' wad (q.wh ++ [⟨nad, ncap, ncs⟩]) ∧ Below w.heap.size w w' := by
  obtain ⟨il, hil, hzl0, hzl1, hzl2⟩ := info_parts Try.infoClause
  obtain ⟨⟨sad, scap, sxs⟩, wad, wcap, wh, group, ⟨kad, kcap, kxs⟩, ⟨uad, ucap, uxs⟩, ⟨lad, lcap, lxs⟩, ⟨oad, ocap, oxs⟩⟩ := q
  simp only at hqa hq hw8 ⊢
  subst hqa
  unfold caseA IntsV.val at *
  simp only
  obtain ⟨W2, hW2⟩ : ∃ W2, (w.alloc (.cells #[.slice co cn cc, .slice sad sxs.length scap, .slice (some xa) wh.length wcap, .bool group, .slice kad kxs.length kcap, .slice uad uxs.length ucap, .slice lad lxs.length lcap, .slice oad oxs.length ocap, .slice d dn dc] 41)).alloc (.cells #[.slice none 0 0, .slice none 0 0, .slice none 0 0, .bool false, .slice none 0 0, .slice none 0 0, .slice none 0 0, .slice none 0 0, .slice none 0 0] 41) = W2 := ⟨_, rfl⟩
  have hb0 : Below w.heap.size w W2 := hW2 ▸ Below.step (below_alloc _ _) (below_alloc _ _)
  have hs2 : W2.heap.size = w.heap.size + 2 := by rw [← hW2]; simp
  have HGb : Hid (GB W2 w.heap.size 41 #[.slice co cn cc, .slice sad sxs.length scap, .slice (some xa) wh.length wcap, .bool group, .slice kad kxs.length kcap, .slice uad uxs.length ucap, .slice lad lxs.length lcap, .slice oad oxs.length ocap, .slice d dn dc]) := by
    show GB _ _ _ _
    rw [← hW2]
    exact (GB.alloc _ _ _).keep (Kept.alloc (s := fun _ => True) _ _) trivial
  have HGz : Hid (GB W2 (w.heap.size + 1) 41 #[.slice none 0 0, .slice none 0 0, .slice none 0 0, .bool false, .slice none 0 0, .slice none 0 0, .slice none 0 0, .slice none 0 0, .slice none 0 0]) := by
    show GB _ _ _ _
    rw [← hW2]
    have := GB.alloc (w.alloc (.cells #[.slice co cn cc, .slice sad sxs.length scap, .slice (some xa) wh.length wcap, .bool group, .slice kad kxs.length kcap, .slice uad uxs.length ucap, .slice lad lxs.length lcap, .slice oad oxs.length ocap, .slice d dn dc] 41)) #[.slice none 0 0, .slice none 0 0, .slice none 0 0, .bool false, .slice none 0 0, .slice none 0 0, .slice none 0 0, .slice none 0 0, .slice none 0 0] 41
    rwa [World.size_alloc] at this
  have hownz : W2.ownsRow W2.heap.size 68 1 (.slice none 0 0) 0 [] := ⟨rfl, Or.inl ⟨rfl, rfl⟩⟩
  have hqc := hq.below hb0
  have HN : Hid (CondsAt w nad ncs) := hn
  have HQ : Hid (ClausesAt w (some xa) wh) := hq
  have HB0 : Hid (Below w.heap.size w W2) := hb0
  have HS2 : Hid (W2.heap.size = w.heap.size + 2) := hs2
  have HW2 : Hid _ := hW2
  have HQ0 : Hid ((wh.map ClauseV.val).length = wh.length * 1) := by show _ = _; simp
  have HQ1 : Hid (∀ j u, (wh.map ClauseV.val)[j]? = some u → W2.cell? (xa.add j) = some u) := by
    intro j u hj
    have hjl : j < wh.length := by
      have := (List.getElem?_eq_some_iff.1 hj).1
      simpa using this
    obtain ⟨b2, off2, e2, hc2⟩ := hqc.2.1 j hjl
    cases e2
    rw [List.getElem?_map, List.getElem?_eq_getElem hjl] at hj
    cases hj
    simp only [List.getD, List.getElem?_eq_getElem hjl, Option.getD_some] at hc2
    have ha : (⟨b2, off2, none⟩ : Addr).add j = ⟨b2, off2 + j, none⟩ := by
      unfold Addr.add
      split
      · simp_all
      · rfl
    rw [ha]
    exact hc2
  have HQ2 : Hid (∀ u ∈ wh.map ClauseV.val, u.oneCell' = true) := by intro u hu; obtain ⟨a, _, rfl⟩ := List.mem_map.1 hu; rfl
  clear hb0 hs2 hW2 hqc hn hq
  go_enter Try.func15, Try.ntmps15
  go_wp2_with (first | (at_builtin; rw [show ((w.alloc (.cells #[.slice co cn cc, .slice sad sxs.length scap, .slice (some xa) wh.length wcap, .bool group, .slice kad kxs.length kcap, .slice uad uxs.length ucap, .slice lad lxs.length lcap, .slice oad oxs.length ocap, .slice d dn dc] 41)).alloc (.cells #[.slice none 0 0, .slice none 0 0, .slice none 0 0, .bool false, .slice none 0 0, .slice none 0 0, .slice none 0 0, .slice none 0 0, .slice none 0 0] 41)) = W2 from HW2.out]; refine wpList_append_own _ rfl _ _ 24 rfl W2.heap.size 68 il (.agg #[.slice none 0 0]) 1 24 Try.underlying24 hil hzl0 hzl1 hzl2 rfl (by decide) _ _ _ rfl hownz xa wh.length wcap (wh.map ClauseV.val) rfl HQ0.out HQ1.out HQ2.out (by unfold maxLen; omega) (by omega) (Nat.le_refl _) ?_))
  intro v3 w3 hown3 hgrow3 _
  have hk3 : Kept (fun b => b < W2.heap.size) W2 w3 := Kept.grown hgrow3 (fun r e hr => by cases e)
  have hsz3 := hk3.size
  obtain ⟨va, vn, vc, rfl⟩ := ownsRow_slice hown3
  have HG3 : Hid _ := GB.keep HGb.out hk3 (by have := HS2.out; omega)
  have HZ3 : Hid _ := GB.keep HGz.out hk3 (by have := HS2.out; omega)
  have HK3 : Hid _ := hk3
  clear hgrow3 hk3 hownz
  go_wp2_with (first | (at_builtin; refine wpList_append_own _ rfl _ _ 24 rfl W2.heap.size 68 il (.agg #[.slice none 0 0]) 1 24 Try.underlying24 hil hzl0 hzl1 hzl2 rfl (by decide) _ _ _ rfl (hown3.alloc _) ⟨w3.heap.size, 0, none⟩ 1 1 [.slice nad ncs.length ncap] rfl rfl (World.news_of_block (cs := #[.slice nad ncs.length ncap]) (t := 68) (fr := (0, 0)) (heap_alloc_new w3 _)) (fun u hu => by rw [List.mem_singleton] at hu; rw [hu]; rfl) (by unfold maxLen; omega) (by omega) (by rw [World.size_alloc]; omega) ?_))
  intro v5 w5 hown5 hgrow5 _
  have hk5 : Kept (fun b => b < W2.heap.size) w3 w5 := (Kept.alloc (s := fun b => b < W2.heap.size) _ _).trans (Kept.grown hgrow5 (fun r e hr => by have := (ownsRow_lt hown3 e).1; omega))
  obtain ⟨va5, vn5, vc5, rfl⟩ := ownsRow_slice hown5
  have HO5 : Hid _ := hown5
  have HG5 : Hid (GB w5 w.heap.size 41 #[.slice co cn cc, .slice sad sxs.length scap, .slice (some xa) wh.length wcap, .bool group, .slice kad kxs.length kcap, .slice uad uxs.length ucap, .slice lad lxs.length lcap, .slice oad oxs.length ocap, .slice d dn dc]) := GB.keep HG3.out hk5 (by have := HS2.out; omega)
  have HZ5 : Hid (GB w5 (w.heap.size + 1) 41 #[.slice none 0 0, .slice none 0 0, .slice none 0 0, .bool false, .slice none 0 0, .slice none 0 0, .slice none 0 0, .slice none 0 0, .slice none 0 0]) := GB.keep HZ3.out hk5 (by have := HS2.out; omega)
  have HK5 : Hid _ := hk5
  clear hgrow5 hk5 hown3 hown5
  have a0 : w5.cell? ⟨w.heap.size, 0, none⟩ = some (.slice co cn cc) := GB.cell HG5.out 0
  have a1 : w5.cell? ⟨w.heap.size, 1, none⟩ = some (.slice sad sxs.length scap) := GB.cell HG5.out 1
  have a2 : w5.cell? ⟨w.heap.size, 2, none⟩ = some (.slice (some xa) wh.length wcap) := GB.cell HG5.out 2
  have a3 : w5.cell? ⟨w.heap.size, 3, none⟩ = some (.bool group) := GB.cell HG5.out 3
  have a4 : w5.cell? ⟨w.heap.size, 4, none⟩ = some (.slice kad kxs.length kcap) := GB.cell HG5.out 4
  have a5 : w5.cell? ⟨w.heap.size, 5, none⟩ = some (.slice uad uxs.length ucap) := GB.cell HG5.out 5
  have a6 : w5.cell? ⟨w.heap.size, 6, none⟩ = some (.slice lad lxs.length lcap) := GB.cell HG5.out 6
  have a7 : w5.cell? ⟨w.heap.size, 7, none⟩ = some (.slice oad oxs.length ocap) := GB.cell HG5.out 7
  have a8 : w5.cell? ⟨w.heap.size, 8, none⟩ = some (.slice d dn dc) := GB.cell HG5.out 8
  have b2 := GB.frozen HG5.out 2
  have r0 : w5.cell? ⟨w.heap.size + 1, 0, none⟩ = some (.slice none 0 0) := GB.cell HZ5.out 0
  have y0 := GB.frozen HZ5.out 0
  have r1 : w5.cell? ⟨w.heap.size + 1, 1, none⟩ = some (.slice none 0 0) := GB.cell HZ5.out 1
  have y1 := GB.frozen HZ5.out 1
  have r2 : w5.cell? ⟨w.heap.size + 1, 2, none⟩ = some (.slice none 0 0) := GB.cell HZ5.out 2
  have y2 := GB.frozen HZ5.out 2
  have r3 : w5.cell? ⟨w.heap.size + 1, 3, none⟩ = some (.bool false) := GB.cell HZ5.out 3
  have y3 := GB.frozen HZ5.out 3
  have r4 : w5.cell? ⟨w.heap.size + 1, 4, none⟩ = some (.slice none 0 0) := GB.cell HZ5.out 4
  have y4 := GB.frozen HZ5.out 4
  have r5 : w5.cell? ⟨w.heap.size + 1, 5, none⟩ = some (.slice none 0 0) := GB.cell HZ5.out 5
  have y5 := GB.frozen HZ5.out 5
  have r6 : w5.cell? ⟨w.heap.size + 1, 6, none⟩ = some (.slice none 0 0) := GB.cell HZ5.out 6
  have y6 := GB.frozen HZ5.out 6
  have r7 : w5.cell? ⟨w.heap.size + 1, 7, none⟩ = some (.slice none 0 0) := GB.cell HZ5.out 7
  have y7 := GB.frozen HZ5.out 7
  have r8 : w5.cell? ⟨w.heap.size + 1, 8, none⟩ = some (.slice none 0 0) := GB.cell HZ5.out 8
  have y8 := GB.frozen HZ5.out 8
  go_wp2
  have hz6 : GB (w5.setCell ⟨w.heap.size, 2, none⟩ (.slice va5 vn5 vc5)) (w.heap.size + 1) 41 #[.slice none 0 0, .slice none 0 0, .slice none 0 0, .bool false, .slice none 0 0, .slice none 0 0, .slice none 0 0, .slice none 0 0, .slice none 0 0] := GB.keep HZ5.out (Kept.setCell (s := fun b => b ≠ w.heap.size) _ _ _ (fun h => h rfl)) (by omega)
  have hGF : GB ((((((((((w5.setCell ⟨w.heap.size, 2, none⟩ (.slice va5 vn5 vc5)).setCell ⟨w.heap.size + 1, 0, none⟩ (.slice co cn cc)).setCell ⟨w.heap.size + 1, 1, none⟩ (.slice sad sxs.length scap)).setCell ⟨w.heap.size + 1, 2, none⟩ (.slice va5 vn5 vc5)).setCell ⟨w.heap.size + 1, 3, none⟩ (.bool group)).setCell ⟨w.heap.size + 1, 4, none⟩ (.slice kad kxs.length kcap)).setCell ⟨w.heap.size + 1, 5, none⟩ (.slice uad uxs.length ucap)).setCell ⟨w.heap.size + 1, 6, none⟩ (.slice lad lxs.length lcap)).setCell ⟨w.heap.size + 1, 7, none⟩ (.slice oad oxs.length ocap)).setCell ⟨w.heap.size + 1, 8, none⟩ (.slice d dn dc)) (w.heap.size + 1) 41 #[.slice co cn cc, .slice sad sxs.length scap, .slice va5 vn5 vc5, .bool group, .slice kad kxs.length kcap, .slice uad uxs.length ucap, .slice lad lxs.length lcap, .slice oad oxs.length ocap, .slice d dn dc] := GB.set9 hz6 _ _ _ _ _ _ _ _ _
  have hkF : Kept (fun b => b ≠ w.heap.size ∧ b ≠ w.heap.size + 1) w5 ((((((((((w5.setCell ⟨w.heap.size, 2, none⟩ (.slice va5 vn5 vc5)).setCell ⟨w.heap.size + 1, 0, none⟩ (.slice co cn cc)).setCell ⟨w.heap.size + 1, 1, none⟩ (.slice sad sxs.length scap)).setCell ⟨w.heap.size + 1, 2, none⟩ (.slice va5 vn5 vc5)).setCell ⟨w.heap.size + 1, 3, none⟩ (.bool group)).setCell ⟨w.heap.size + 1, 4, none⟩ (.slice kad kxs.length kcap)).setCell ⟨w.heap.size + 1, 5, none⟩ (.slice uad uxs.length ucap)).setCell ⟨w.heap.size + 1, 6, none⟩ (.slice lad lxs.length lcap)).setCell ⟨w.heap.size + 1, 7, none⟩ (.slice oad oxs.length ocap)).setCell ⟨w.heap.size + 1, 8, none⟩ (.slice d dn dc)) := ((((((((((Kept.setCell _ _ _ (fun h => h.1 rfl)).trans (Kept.setCell _ _ _ (fun h => h.2 rfl))).trans (Kept.setCell _ _ _ (fun h => h.2 rfl))).trans (Kept.setCell _ _ _ (fun h => h.2 rfl))).trans (Kept.setCell _ _ _ (fun h => h.2 rfl))).trans (Kept.setCell _ _ _ (fun h => h.2 rfl))).trans (Kept.setCell _ _ _ (fun h => h.2 rfl))).trans (Kept.setCell _ _ _ (fun h => h.2 rfl))).trans (Kept.setCell _ _ _ (fun h => h.2 rfl))).trans (Kept.setCell _ _ _ (fun h => h.2 rfl)))
  refine bodyPost_ret (results_cell_row rfl _ _ (w.heap.size + 1) 41 #[.slice co cn cc, .slice sad sxs.length scap, .slice va5 vn5 vc5, .bool group, .slice kad kxs.length kcap, .slice uad uxs.length ucap, .slice lad lxs.length lcap, .slice oad oxs.length ocap, .slice d dn dc] (0, 0) _ rfl hGF Try.underlying41 rfl (by kernel_rfl)) rfl ?_
  clear hGF
  generalize ((((((((((w5.setCell ⟨w.heap.size, 2, none⟩ (.slice va5 vn5 vc5)).setCell ⟨w.heap.size + 1, 0, none⟩ (.slice co cn cc)).setCell ⟨w.heap.size + 1, 1, none⟩ (.slice sad sxs.length scap)).setCell ⟨w.heap.size + 1, 2, none⟩ (.slice va5 vn5 vc5)).setCell ⟨w.heap.size + 1, 3, none⟩ (.bool group)).setCell ⟨w.heap.size + 1, 4, none⟩ (.slice kad kxs.length kcap)).setCell ⟨w.heap.size + 1, 5, none⟩ (.slice uad uxs.length ucap)).setCell ⟨w.heap.size + 1, 6, none⟩ (.slice lad lxs.length lcap)).setCell ⟨w.heap.size + 1, 7, none⟩ (.slice oad oxs.length ocap)).setCell ⟨w.heap.size + 1, 8, none⟩ (.slice d dn dc)) = WF at hkF ⊢
  have hs2 := HS2.out
  have hbF : Below w.heap.size w WF := HB0.out.trans ((((HK3.out.mono (t := fun b => b < w.heap.size) (fun b _ h => by omega)).trans (HK5.out.mono (fun b _ h => by omega))).trans (hkF.mono (fun b _ h => by omega))).below (by omega) (fun b h => h))
  have ho : w5.ownsRow W2.heap.size 68 1 (.slice va5 vn5 vc5) (wh ++ [(⟨nad, ncap, ncs⟩ : ClauseV)]).length ((wh ++ [(⟨nad, ncap, ncs⟩ : ClauseV)]).map ClauseV.val) := by
    rw [show (wh ++ [(⟨nad, ncap, ncs⟩ : ClauseV)]).length = wh.length + 1 from by simp, show (wh ++ [(⟨nad, ncap, ncs⟩ : ClauseV)]).map ClauseV.val = wh.map ClauseV.val ++ [.slice nad ncs.length ncap] from by simp [ClauseV.val]]
    exact HO5.out
  have hoF := ownsRow_keep ho hkF (fun g hg => by have := (ownsRow_lt ho hg).1; omega)
  obtain ⟨ad, cap, hv, hcl⟩ := clauses_of_own hoF (fun x hx => by
    rcases List.mem_append.1 hx with hx | hx
    · obtain ⟨i, hi, rfl⟩ := List.getElem_of_mem hx
      have h1 := HQ.out.2.2 i hi
      simp only [List.getD, List.getElem?_eq_getElem hi, Option.getD_some] at h1
      exact CondsAt.below hbF h1
    · rw [List.mem_singleton] at hx
      rw [hx]
      exact CondsAt.below hbF HN.out) (by rw [List.length_append, List.length_singleton]; omega)
  cases hv
  exact ⟨_, _, rfl, hcl, hbF⟩

end Go.Proofs.Ytlpbelhfpoilpaa

