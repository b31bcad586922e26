import Derived.Deep.RegionHeld3
import Derived.Test.YtlpbelhfpoilpaaGreatCGrKGrL
set_option linter.all false
namespace Go.Proofs.YtlpbelhfpoilpaaGreat
open Go.RowKit Go.Scout Go.Shelf Go.Maps Go.WideMaps

attribute [local go_sem] Oper.semAt_some

set_option maxRecDepth 100000 in
set_option maxHeartbeats 8000000 in
theorem gatherGroups_any (gi : Nat) (lbi : Array Value) (kc sc : IntsV) (rows : List (List Int)) (w0 w : World) (hb0 : Below w0.heap.size w0 w) (hseq : Seq rowEl Tryz.prog gi lbi rows w0) (egi : ∀ args w, (callFunc gi args).run Tryz.prog w = .ok (.enter gi args) w)
    (hkc : kc.At w) (hsc : sc.At w) (hkl : kc.xs.length ≤ 4) (hsl : sc.xs.length ≤ 4) (hlen : rows.length ≤ 1000000) (hkin : ∀ r ∈ rows, allB kc.xs r.length = true) (hsin : ∀ r ∈ rows, allB sc.xs r.length = true) (hsm : ∀ r ∈ rows, ∀ v ∈ r, smallI v) :
    Calls Tryz.prog 94 #[.func (.func gi) #[] lbi, kc.val, sc.val] w fun e w' => ∃ v gs, e = .returned v ∧ gs.map GrV.gr = groupsN kc.xs sc.xs rows ∧ Grps 138 3 123 sc.xs.length (w.heap.size + 5) (w.heap.size + 2) gs w' v ∧ Below w.heap.size w w' := by
  obtain ⟨f1, f2, f3, f4, f5, f6, f7⟩ := base_facts w kc.val sc.val sc.xs.length kc.xs.length
  obtain ⟨V, hV⟩ : ∃ V, baseV w kc.val sc.val = V := ⟨_, rfl⟩
  rw [hV] at f1 f2 f3 f4 f5 f6 f7
  unfold baseV at hV
  have HV : Hid _ := hV
  have HB0 : Hid _ := hb0
  have HKC : Hid _ := hkc
  have HSC : Hid _ := hsc
  have HKL : Hid _ := hkl
  have HSL : Hid _ := hsl
  have HLEN : Hid _ := hlen
  have HKI : Hid _ := hkin
  have HSI : Hid _ := hsin
  have HSM : Hid _ := hsm
  clear hV hb0 hkc hsc hkl hlen hkin hsin hsm
  obtain ⟨kad, kcap, kxs⟩ := kc
  obtain ⟨sad, scap, sxs⟩ := sc
  unfold IntsV.val at *
  simp only at *
  refine (callsIn_wide (n := 0)).1 (callsIn_of_wp_marks Tryz.func94 rfl trivial ?_ rfl)
  simp only [Tryz.ntmps94, List.size_toArray, List.length_cons, List.length_nil, Nat.reduceAdd, Nat.reduceSub, Array.replicate_succ, Array.replicate_zero, List.push_toArray, List.append_toArray, List.nil_append, List.cons_append]
  have hmm := @run_makeMap Tryz.prog
  gi_upto_region 3 with fail
  rw [HV.out]
  simp only [Nat.add_assoc, Nat.reduceAdd]
  by_cases hk0 : kxs = []
  case' pos =>
    have hl0 : Hid (kxs.length = 0) := by show _ = _; rw [hk0]; rfl
    have hne : ((kxs.length : Int) == 0) = true := by have := hl0.out; simp; omega
    have HK0 : Hid _ := hk0
    clear hk0
    have F2 : Hid _ := f2
    have F6 : Hid _ := f6
    have F7 : Hid _ := f7
    obtain ⟨v0, hv0⟩ : ∃ v0 : Value, .slice none 0 0 = v0 := ⟨_, rfl⟩
    have hv0n : v0.ownBlock = none := by rw [← hv0]; rfl
    have hV0 : Hid _ := hv0
    rw [hv0] at f1
    have hbx := f1.box
    have F1 : Hid _ := f1
    clear hv0
    have hng : Calls Tryz.prog 105 #[.slice none 0 0, .int .i64 sxs.length] V.drew fun e w' => e = .returned (.pointer (some ⟨V.heap.size + 2, 0, none⟩)) ∧
      w'.heap[V.heap.size + 2]? = some (.cells #[.slice none 0 0, .int .i64 0, .slice (some ⟨V.heap.size + 1, 0, none⟩) sxs.length sxs.length] 138) ∧
      w'.heap[V.heap.size + 1]? = some (.cells (List.replicate sxs.length (Value.int .i64 1073741824)).toArray 3) ∧ Below V.heap.size V.drew w' ∧ w'.heap.size = V.heap.size + 3 := newGroup_any ⟨none, 0, []⟩ sxs.length V.drew HSL.out
    have HPUSH : Hid (∀ w4 : World, w4.heap[V.heap.size + 2]? = some (.cells #[.slice none 0 0, .int .i64 0, .slice (some ⟨V.heap.size + 1, 0, none⟩) sxs.length sxs.length] 138) → w4.heap[V.heap.size + 1]? = some (.cells (List.replicate sxs.length (Value.int .i64 1073741824)).toArray 3) → Below V.heap.size V.drew w4 → w4.heap.size = V.heap.size + 3 →
      ∃ v' w5, (Builtin.append_ #[121, 121] 121 #[v0, .slice (some ⟨w4.heap.size, 0, none⟩) 1 1]).run Tryz.prog (w4.alloc (.cells #[.pointer (some ⟨V.heap.size + 2, 0, none⟩)] 123)) = .ok v' w5 ∧
        w5.cell? ⟨w.heap.size + 2, 0, none⟩ = some v0 ∧ w5.frozen? ⟨w.heap.size + 2, 0, none⟩ = false ∧ (∃ a m c, v' = .slice a m c) ∧
        ∃ (v : Value) (g : GrV), Grps 138 3 123 sxs.length (w.heap.size + 5) (w.heap.size + 2) [g] (w5.setCell ⟨w.heap.size + 2, 0, none⟩ v') v ∧ g.gr = newG [] sxs.length ∧ sumsB g ∧ Kept (fun b => b ≠ w.heap.size + 2) V (w5.setCell ⟨w.heap.size + 2, 0, none⟩ v') ∧ ∀ b, grpsOwn (w.heap.size + 2) v [g] b → b = w.heap.size + 2 ∨ (w.heap.size + 5 ≤ b ∧ b < (w5.setCell ⟨w.heap.size + 2, 0, none⟩ v').heap.size)) := by
      intro w4 p2 p1 pb ps
      have hkd : Kept (fun _ => True) V V.drew := ⟨rfl, rfl, rfl, Nat.le_refl _, fun _ _ _ => rfl⟩
      have hV7 : V.heap.size = w.heap.size + 5 := F7.out
      obtain ⟨v', w5, hr, hc, hf, hsl', hG, hk, ho⟩ := push_group V.drew w4 sxs.length (w.heap.size + 5) (w.heap.size + 2) [] v0 (F1.out.keep hkd (fun _ _ => trivial)) (by show _ ≤ V.heap.size; omega) (by simp) ⟨none, 0, []⟩ ⟨⟨by simp, fun i hi => by simp at hi⟩, fun a ha => (by cases ha), fun _ => rfl⟩ (fun b hb => by cases hb) p2 p1 pb ps
      refine ⟨v', w5, hr, hc, hf, hsl', v', _, hG, rfl, sumsB_new _ _ _ _, (hkd.mono fun _ _ _ => trivial).trans (hk.mono fun b _ h => ⟨h, fun e => by rw [hv0n] at e; cases e⟩), fun b hb => ?_⟩
      rcases ho b hb with (h | h | ⟨_, h, _⟩) | h | h
      · exact .inl h
      · rw [hv0n] at h; cases h
      · simp at h
      · cases h
      · exact .inr ⟨by have := h.1; have e : V.drew.heap.size = V.heap.size := rfl; omega, h.2⟩
    have hfol : Tryz.prog.follows .mixedOrders = true := by kernel_rfl
    clear f1 f2 f6 f7
    gi_upto_region 4 with fail
    gi_cut [] from 15 (fun wx => ∃ (v : Value) (g : GrV), Grps 138 3 123 sxs.length (w.heap.size + 5) (w.heap.size + 2) [g] wx v ∧ g.gr = newG [] sxs.length ∧ sumsB g ∧ Kept (fun b => b ≠ w.heap.size + 2) V wx ∧ ∀ b, grpsOwn (w.heap.size + 2) v [g] b → b = w.heap.size + 2 ∨ (w.heap.size + 5 ≤ b ∧ b < wx.heap.size))
    case first =>
      refine wpIn_wide.2 (wp_region_noPanic ?_)
      go_region_law
        ((first
          | (refine step_append (by rfl) _ _ _ (by rfl) v0 (.slice (some ⟨w4.heap.size, 0, none⟩) 1 1) (.slice va5 vm5 vq5) w5 (by rfl) (by rfl) hr5 ?_)
          | (go_simp; go_at_call 105; refine hng.mono ?_; rintro e w4 ⟨rfl, p2, p1, pb, ps⟩; obtain ⟨v5, w5, hr5, hc5, hf5, ⟨va5, vm5, vq5, rfl⟩, hfin⟩ := HPUSH.out w4 p2 p1 pb ps; have hb4 := cell_keep (A := V.drew) hbx (Kept.of_below (s := fun _ => True) pb (fun b hb _ => hb)) trivial; have hb4a := cell_keep hb4 (Kept.alloc (s := fun _ => True) w4 (.cells #[.pointer (some ⟨V.heap.size + 2, 0, none⟩)] 123)) trivial; clear p2 p1 pb ps)))
      all_goals
        refine NoPanic.normal ?_
        gi_wp2_with fail
        gi_meet
        exact hfin
    case' rest =>
      obtain ⟨v, g, hG, hgg, hgs, hkx, hox⟩ := hcut
      obtain ⟨kl, hkl⟩ := keyArr_key (xs := []) Tryz.arrKey Tryz.underlying3 Tryz.someTypes (fun x hx => by simp at hx)
      have hkl' : keyOf Tryz.prog 134 (.agg #[.int .i64 0, .int .i64 0, .int .i64 0, .int .i64 0]) = some kl := hkl
      have hM := MapAt.keep F2.out (hkx.block _ (MapAt.lt F2.out) (by omega))
      obtain ⟨D, hown, htell⟩ := hM
      have hn5 := cell_keep f5 hkx (by show w.heap.size + 4 ≠ _; omega)
      have HG : Hid _ := hG
      have HGG : Hid _ := hgg
      have HGS : Hid _ := hgs
      have HKX : Hid _ := hkx
      have HOX : Hid _ := hox
      have HTE : Hid _ := htell
      clear hG hgg hgs hkx hox htell f5 hng
      gi_upto_region 6 with (first | (gi_at_mapUpdate; refine wpListIn_mapUpdate_own _ rfl _ _ _ 132 rfl 134 3 Tryz.keyedLaw Tryz.underlying132 _ (w.heap.size + 3) 0 D rfl hown (by unfold maxLen; omega) _ _ kl rfl rfl hkl' (.lit (.int .i64 0)) [] (plainElem_int Tryz.underlying3 rfl) ?_; intro w6 hown6 hgrow6))
      have HGI : Hid (GI Tryz.prog 138 3 123 134 ⟨kad, kcap, kxs⟩ ⟨sad, scap, sxs⟩ w [] [g] (fun b => grpsOwn (w.heap.size + 2) v [g] b ∨ b = w.heap.size + 3) w6 v) := by
        have hk6 : Kept (fun b => b ≠ w.heap.size + 3) wc w6 := Kept.grown hgrow6 (fun r e hr => by cases e; exact hr rfl)
        have hgk : g.k.xs = [] := congrArg Gr.key HGG.out
        have hV7 : V.heap.size = w.heap.size + 5 := F7.out
        have hsx : V.heap.size ≤ wc.heap.size := HKX.out.size
        refine ⟨?_, HG.out.keep hk6 (fun b hb e => ?_), ?_, fun x hx => ?_, ?_, ?_, ?_, ?_, fun b => Iff.rfl⟩
        · show [g.gr] = startG kxs sxs
          rw [HGG.out]
          unfold startG
          rw [if_pos HK0.out]
        · rcases grpsOwn_low HG.out hb with h | h <;> omega
        · have := MapAt.put (k := []) Tryz.keyedLaw HTE.out hown.isMap (by have := hl0.out; omega) hl0.out.symm hkl rfl hown6
          show MapAt _ _ _ _ _ 1 [g.k.xs] _
          rw [hgk]
          exact this
        · rw [List.mem_singleton] at hx
          rw [hx]
          exact ⟨HGS.out, by have h := congrArg Gr.cnt HGG.out; have h' : g.cnt = 0 := h; omega⟩
        · exact cell_keep (cell_keep f3 HKX.out (by show w.heap.size ≠ _; omega)) hk6 (by show w.heap.size ≠ _; omega)
        · exact cell_keep (cell_keep f4 HKX.out (by show w.heap.size + 1 ≠ _; omega)) hk6 (by show w.heap.size + 1 ≠ _; omega)
        · exact cell_keep hn5 hk6 (by show w.heap.size + 4 ≠ _; omega)
        · exact (F6.out.trans (HKX.out.below (by omega) (fun b hb => by omega))).trans (hk6.below (by have := F6.out.size; omega) (fun b hb => by omega))
      clear hown6 hgrow6 hown hn5
      go_frame
      gi_cut [26] from 15 (fun f wx => f = .func (.func gi) #[] lbi ∧ ∃ gs v, GI Tryz.prog 138 3 123 134 ⟨kad, kcap, kxs⟩ ⟨sad, scap, sxs⟩ w [] gs (fun b => grpsOwn (w.heap.size + 2) v gs b ∨ b = w.heap.size + 3) wx v)
      case first =>
        gi_wp2_with fail
        gi_meet
        exact ⟨rfl, [g], v, HGI.out⟩
  case' neg =>
    have hpos : 0 < kxs.length := List.length_pos_iff.2 hk0
    have hne : ((kxs.length : Int) == 0) = false := by simp; omega
    have F1 : Hid _ := f1
    have F2 : Hid _ := f2
    have F6 : Hid _ := f6
    have F7 : Hid _ := f7
    clear f1 f2 f6 f7
    gi_upto_region 6 with fail
    have HGI : Hid (GI Tryz.prog 138 3 123 134 ⟨kad, kcap, kxs⟩ ⟨sad, scap, sxs⟩ w [] [] (fun b => grpsOwn (w.heap.size + 2) (.slice none 0 0) [] b ∨ b = w.heap.size + 3) V (.slice none 0 0)) := by
      refine ⟨?_, F1.out, ?_, fun x hx => by simp at hx, f3, f4, f5, F6.out, fun b => Iff.rfl⟩
      · show [] = startG kxs sxs
        unfold startG
        rw [if_neg hk0]
      · obtain ⟨D, h1, h2⟩ := F2.out
        exact ⟨D, h1.mono (Nat.zero_le _), h2⟩
    gi_cut [26] from 15 (fun f wx => f = .func (.func gi) #[] lbi ∧ ∃ gs v, GI Tryz.prog 138 3 123 134 ⟨kad, kcap, kxs⟩ ⟨sad, scap, sxs⟩ w [] gs (fun b => grpsOwn (w.heap.size + 2) v gs b ∨ b = w.heap.size + 3) wx v)
    case first =>
      gi_wp2_with fail
      gi_meet
      exact ⟨rfl, [], _, HGI.out⟩
  all_goals
    obtain ⟨rfl, gs0, v0, hGI⟩ := hcut
    have hsz5 : w.heap.size + 5 ≤ wc.heap.size := by have := cell_lt hGI.bn; have h : w.heap.size + 4 < wc.heap.size := this; omega
    have HGI0 : Hid _ := hGI
    have HS5 : Hid _ := hsz5
    clear hGI hsz5 f3 f4 hmm hne
    gi_wp2_with fail
    refine wp_range rowEl (gf := gi) (lb := lbi) rfl egi hseq (HB0.out.trans (HGI0.out.below.mono HB0.out.size)) rfl
      (fun pre o1 W => ∃ gs v, GI Tryz.prog 138 3 123 134 ⟨kad, kcap, kxs⟩ ⟨sad, scap, sxs⟩ w pre gs o1 W v)
      (fun b => grpsOwn (w.heap.size + 2) v0 gs0 b ∨ b = w.heap.size + 3) ?_ ?_ ⟨_, _, HGI0.out⟩
      (fun x => { tmps := #[.func (.func gi) #[] lbi, .slice kad kxs.length kcap, .slice sad sxs.length scap, undef, .pointer (some ⟨w.heap.size, 0, none⟩), .pointer (some ⟨w.heap.size + 1, 0, none⟩), .slice none 0 0, .pointer (some ⟨w.heap.size + 2, 0, none⟩), .pointer (some ⟨w.heap.size + 4, 0, none⟩), x.val, undef, undef, undef, undef, .map (some (w.heap.size + 3)), u15, u16, u17, u18, u19, u20, u21, u22, u23, u24, u25, .func (.func gi) #[] lbi, x.val, u28, u29, u30, u31, u32, u33, u34, u35, u36, u37, u38, u39, u40, u41, u42, u43, u44, u45, u46, u47, u48, u49, u50, u51, u52, u53, u54, u55, u56, u57, u58, u59, u60, u61], defers := [] }) ?assign ?body ?done
    · intro b hb
      have h0 := HB0.out.size
      have h5 := HS5.out
      rcases hb with hb | hb
      · refine ⟨?_, HGI0.out.grps.lt hb⟩
        rcases grpsOwn_low HGI0.out.grps hb with h | h <;> omega
      · omega
    · rintro pre o1 A B ⟨gs, v, h⟩ hk
      exact ⟨gs, v, h.keep hk (fun b hb => hb.imp id (fun hb => by have := HS5.out; omega))⟩
    case assign =>
      intro l x W K hK
      gi_wp2
      exact hK
    case body =>
      rintro l pre x o1 W ⟨gs, v, hG⟩ hpre hx hoff hsz
      have hxm : x.xs ∈ rows := mem_of_pre hpre
      have hpl : pre.length + 1 ≤ 1000000 := by
        have := hpre.length_le
        rw [List.length_map, List.length_append] at this
        exact Nat.le_trans this HLEN.out
      have hkl4 := HKL.out
      have hpk := pick_any x ⟨kad, kcap, kxs⟩ W hx.1 (IntsAt.below hG.below HKC.out) (HKI.out _ hxm) (by show kxs.length ≤ _; omega)
      have hvl : (pickN x.xs kxs).length = kxs.length := by simp [pickN]
      have hsmv := pickN_small (cols := kxs) (HSM.out _ hxm)
      have HVA : Hid (pickN x.xs kxs = pickN x.xs kxs) := rfl
      obtain ⟨vals, hvals⟩ : ∃ vals, pickN x.xs kxs = vals := ⟨_, rfl⟩
      have HVALS : Hid _ := hvals
      simp only at hpk
      rw [hvals] at hpk hvl hsmv
      clear hvals HVA
      have hcp := key_copy W vals (by omega)
      obtain ⟨W2, hW2⟩ : ∃ W2, (W.alloc (.cells (vals.map (Value.int .i64)).toArray 3)).alloc (.cells #[.int .i64 (vals.getD 0 0), .int .i64 (vals.getD 1 0), .int .i64 (vals.getD 2 0), .int .i64 (vals.getD 3 0)] 134) = W2 := ⟨_, rfl⟩
      rw [hW2] at hcp
      have hb1 := below_alloc W (.cells (vals.map (Value.int .i64)).toArray 3)
      have hb12 := below_alloc (W.alloc (.cells (vals.map (Value.int .i64)).toArray 3)) (.cells #[.int .i64 (vals.getD 0 0), .int .i64 (vals.getD 1 0), .int .i64 (vals.getD 2 0), .int .i64 (vals.getD 3 0)] 134)
      have hb2 := hb1.trans (hb12.mono hb1.size)
      have ha2 := heap_alloc_new (W.alloc (.cells (vals.map (Value.int .i64)).toArray 3)) (.cells #[.int .i64 (vals.getD 0 0), .int .i64 (vals.getD 1 0), .int .i64 (vals.getD 2 0), .int .i64 (vals.getD 3 0)] 134)
      have ha1 := (hb12.block W.heap.size (by simp)).trans (heap_alloc_new W (.cells (vals.map (Value.int .i64)).toArray 3))
      have hs2 : ((W.alloc (.cells (vals.map (Value.int .i64)).toArray 3)).alloc (.cells #[.int .i64 (vals.getD 0 0), .int .i64 (vals.getD 1 0), .int .i64 (vals.getD 2 0), .int .i64 (vals.getD 3 0)] 134)).heap.size = W.heap.size + 2 := by simp
      rw [World.size_alloc] at ha2
      rw [hW2] at hb2 ha2 ha1 hs2
      clear hW2 hb1 hb12
      have hbk := hG.bk
      have hbn2 := cell_below hb2 hG.bn
      have hbs2 := cell_below hb2 hG.bs
      have hbx2 := cell_below hb2 hG.grps.box
      have hG2 : GI Tryz.prog 138 3 123 134 ⟨kad, kcap, kxs⟩ ⟨sad, scap, sxs⟩ w pre gs (fun b => grpsOwn (w.heap.size + 2) v gs b ∨ b = w.heap.size + 3) W2 v := by
        have h := hG.keep (s := fun b => b < W.heap.size) (Kept.of_below hb2 (fun b _ h => h)) (fun b hb => by
          rcases hb with hb | hb
          · rcases (hG.iff b).1 hb with h | h
            · exact hG.grps.lt h
            · rw [h]; exact hG.map.lt
          · have := HS5.out; omega)
        exact ⟨h.fold, h.grps, h.map, h.sums, h.bk, h.bs, h.bn, h.below, fun b => Iff.rfl⟩
      obtain ⟨hit, miss⟩ := look_facts W2 kxs.length (w.heap.size + 3) (pre.length + 1) (gs.map (·.k.xs)) hG2.map vals hvl hkl4 (by omega) (by rw [List.length_map]; have := hG2.len; omega) hsmv
      unfold keyArr key4 at hit miss
      have q0 : W2.cell? ⟨W.heap.size + 1, 0, none⟩ = some (.int .i64 (vals.getD 0 0)) := cells_cell ha2 rfl
      have q1 : W2.cell? ⟨W.heap.size + 1, 1, none⟩ = some (.int .i64 (vals.getD 1 0)) := cells_cell ha2 rfl
      have q2 : W2.cell? ⟨W.heap.size + 1, 2, none⟩ = some (.int .i64 (vals.getD 2 0)) := cells_cell ha2 rfl
      have q3 : W2.cell? ⟨W.heap.size + 1, 3, none⟩ = some (.int .i64 (vals.getD 3 0)) := cells_cell ha2 rfl
      have HA1 : Hid _ := ha1
      have HB2 : Hid _ := hb2
      have HS2 : Hid _ := hs2
      have HG : Hid _ := hG
      have HGG : Hid _ := hG2
      have HX : Hid _ := hx
      have HOFF : Hid _ := hoff
      have HSZ : Hid _ := hsz
      have HXM : Hid _ := hxm
      have HVL : Hid _ := hvl
      have HPRE : Hid _ := hpre
      have HHIT : Hid _ := hit
      have HMISS : Hid _ := miss
      clear ha1 ha2 hb2 hs2 hG hG2 hx hoff hsz hxm hpre hit miss hsmv
      generalize vals.getD 0 0 = p0 at *
      generalize vals.getD 1 0 = p1 at *
      generalize vals.getD 2 0 = p2 at *
      generalize vals.getD 3 0 = p3 at *
      rw [← hvl] at hpk
      clear hvl
      cases hf : findK (gs.map (·.k.xs)) vals with
      | some i =>
        have hlook := HHIT.out i hf
        obtain ⟨hi', hki⟩ := findK_lt hf
        have hi : i < gs.length := by simpa using hi'
        obtain ⟨gr, gcap, hv, hcell⟩ := ownsRow_cell HGG.out.grps.own hi
        have hci : W2.cell? ⟨gr, i, none⟩ = some (.pointer (some ⟨gs[i].gb, 0, none⟩)) := by rw [hcell, List.getElem?_map, List.getElem?_eq_getElem hi]; rfl
        have hxo : ∀ b, rowEl.blk x = some b → ¬ grpsOwn (w.heap.size + 2) v gs b := fun b hb h => (HOFF.out b hb).1 ((HG.out.iff b).2 (.inl h))
        have hxW2 : rowEl.At x W2 := rowEl.keep HX.out HB2.out.size (fun b hb _ => HB2.out.block b hb)
        have hadd := add_facts w W2 gs v ⟨sad, scap, sxs⟩ x HGG.out.grps HGG.out.below HSC.out HSL.out hxW2 hxo (fun g hg => ⟨(HGG.out.sums g hg).1, by have := (HGG.out.sums g hg).2; omega⟩) (HSM.out _ HXM.out) (HSI.out _ HXM.out) hi
        have HFIN : Hid (∀ W7 : World, W7.heap[gs[i].gb]? = some (.cells #[gs[i].k.val, .int .i64 (gs[i].cnt + 1 : Nat), .slice (some ⟨gs[i].sb, 0, none⟩) sxs.length sxs.length] 138) → W7.heap[gs[i].sb]? = some (.cells ((addsN gs[i].ss x.xs sxs).map (Value.int .i64)).toArray 3) → Kept (fun b => b ≠ gs[i].gb ∧ b ≠ gs[i].sb) W2 W7 → W7.heap.size = W2.heap.size →
            ∃ o2, (∃ gs' v', GI Tryz.prog 138 3 123 134 ⟨kad, kcap, kxs⟩ ⟨sad, scap, sxs⟩ w (pre ++ [x]) gs' o2 W7 v') ∧ Kept (fun b => ¬ o1 b) W W7 ∧ ∀ b, o2 b → o1 b ∨ (W.heap.size ≤ b ∧ b < W7.heap.size) ∨ (rowEl.blk x = some b ∧ wc.heap.size ≤ b)) := by
          intro W7 r1 r2 r3 r4
          have hmem : gs[i] ∈ gs := List.getElem_mem hi
          refine ⟨_, ⟨_, _, GI.bumped (x := x) HGG.out.grps (HGG.out.map.mono (by omega)) HGG.out.sums HGG.out.bk HGG.out.bs HGG.out.bn HGG.out.below hi (fold_hit HGG.out.fold (by rw [HVALS.out]; exact hf)) (HSM.out _ HXM.out) r1 r2 r3⟩, ?_, fun b hb => .inl ((HG.out.iff b).2 hb)⟩
          refine (Kept.of_below (s := fun b => ¬ o1 b) HB2.out (fun b hb _ => hb)).trans (r3.mono fun b _ h => ⟨fun e => h ((HG.out.iff b).2 (.inl (.inr (.inr ⟨_, hmem, .inl e⟩)))), fun e => h ((HG.out.iff b).2 (.inl (.inr (.inr ⟨_, hmem, .inr (.inl e)⟩))))⟩)
        have HF : Hid _ := hf
        have HI : Hid _ := hi
        have HCI : Hid _ := hci
        rw [hv] at hbx2
        clear hf hi' hki hcell hxo hxW2 hv
        obtain ⟨xad, xcap, xxs⟩ := x
        unfold IntsV.val at *
        simp only at *
        gi_wp2_with (refine ⟨trivial, rfl, CallsIn.inRound l (callsIn_wide.2 (hpk.mono ?_))⟩; rintro e w4 ⟨rfl, rfl⟩)
        have hfol : Tryz.prog.follows .mixedOrders = true := by kernel_rfl
        refine wpIn_region_any hfol (anyIn_round (noDefer_spec (by kernel_rfl)) _ _ _ _ ?_)
        change wpAnyIn _ _ _ _ _ _ _ _ _ (World.drew _)
        refine wpAnyIn_take (i := 1) (v := .int .i64 (i : Int)) rfl rfl (by kernel_rfl) (by kernel_rfl) (by kernel_rfl) (fun _ _ _ h => h) ⟨Or.inl ⟨by rfl, fun w => by go_simp⟩, fun _ => rfl⟩ ?_
        refine wpAnyIn_take (i := 4) (v := .slice xad xxs.length xcap) rfl rfl (by kernel_rfl) (by kernel_rfl) (by kernel_rfl) (fun _ _ _ h => h) ⟨Or.inl ⟨by rfl, fun w => by go_simp⟩, fun _ => rfl⟩ ?_
        refine wpAnyIn_ready (rs := [0, 5]) (by kernel_rfl) (by simp) ?_
        refine AllReadyIn.cons rfl (fun K hK => ?_) ?_
        · go_simp
          refine hK _ _ ?_
          clear hK K
          refine wpAnyIn_take (i := 2) (v := .pointer (some ⟨gr, i, none⟩)) rfl rfl (by kernel_rfl) (by kernel_rfl) (by kernel_rfl) (fun _ _ _ h => h) ⟨Or.inl ⟨by rfl, fun w => by go_simp⟩, fun _ => rfl⟩ ?_
          refine wpAnyIn_ready (rs := [3, 5]) (by kernel_rfl) (by simp) ?_
          refine AllReadyIn.cons rfl (fun K hK => ?_) ?_
          · go_simp
            refine hK _ _ ?_
            clear hK K
            refine wpAnyIn_ready (rs := [5]) (by kernel_rfl) (by simp) ?_
            refine AllReadyIn.cons rfl (fun K hK => ?_) AllReadyIn.nil
            go_simp
            refine hK _ _ ?_
            clear hK K
            refine wpAnyIn_ready (rs := [6]) (by kernel_rfl) (by simp) ?_
            refine AllReadyIn.cons rfl (fun K hK => ?_) AllReadyIn.nil
            go_simp
            refine ⟨trivial, rfl, callsIn_wide.2 (hadd.mono ?_)⟩
            rintro e W7 ⟨⟨u7, rfl⟩, r1, r2, r3, r4⟩
            refine hK _ _ ?_
            clear hK K
            refine wpAnyIn_done (by kernel_rfl) ?_ _
            exact HFIN.out W7 r1 r2 r3 r4
          refine AllReadyIn.cons rfl (fun K hK => ?_) AllReadyIn.nil
          go_simp
          refine hK _ _ ?_
          clear hK K
          refine wpAnyIn_ready (rs := [3]) (by kernel_rfl) (by simp) ?_
          refine AllReadyIn.cons rfl (fun K hK => ?_) AllReadyIn.nil
          go_simp
          refine hK _ _ ?_
          clear hK K
          refine wpAnyIn_ready (rs := [6]) (by kernel_rfl) (by simp) ?_
          refine AllReadyIn.cons rfl (fun K hK => ?_) AllReadyIn.nil
          go_simp
          refine ⟨trivial, rfl, callsIn_wide.2 (hadd.mono ?_)⟩
          rintro e W7 ⟨⟨u7, rfl⟩, r1, r2, r3, r4⟩
          refine hK _ _ ?_
          clear hK K
          refine wpAnyIn_done (by kernel_rfl) ?_ _
          exact HFIN.out W7 r1 r2 r3 r4
        refine AllReadyIn.cons rfl (fun K hK => ?_) AllReadyIn.nil
        go_simp
        refine hK _ _ ?_
        clear hK K
        refine wpAnyIn_ready (rs := [0]) (by kernel_rfl) (by simp) ?_
        refine AllReadyIn.cons rfl (fun K hK => ?_) AllReadyIn.nil
        go_simp
        refine hK _ _ ?_
        clear hK K
        refine wpAnyIn_take (i := 2) (v := .pointer (some ⟨gr, i, none⟩)) rfl rfl (by kernel_rfl) (by kernel_rfl) (by kernel_rfl) (fun _ _ _ h => h) ⟨Or.inl ⟨by rfl, fun w => by go_simp⟩, fun _ => rfl⟩ ?_
        refine wpAnyIn_ready (rs := [3]) (by kernel_rfl) (by simp) ?_
        refine AllReadyIn.cons rfl (fun K hK => ?_) AllReadyIn.nil
        go_simp
        refine hK _ _ ?_
        clear hK K
        refine wpAnyIn_ready (rs := [6]) (by kernel_rfl) (by simp) ?_
        refine AllReadyIn.cons rfl (fun K hK => ?_) AllReadyIn.nil
        go_simp
        refine ⟨trivial, rfl, callsIn_wide.2 (hadd.mono ?_)⟩
        rintro e W7 ⟨⟨u7, rfl⟩, r1, r2, r3, r4⟩
        refine hK _ _ ?_
        clear hK K
        refine wpAnyIn_done (by kernel_rfl) ?_ _
        exact HFIN.out W7 r1 r2 r3 r4
      | none =>
        obtain ⟨hlook, W3, hupd, hM3, hgr3⟩ := HMISS.out hf
        obtain ⟨vad, vcap, rfl⟩ := ownsRow_len HGG.out.grps.own
        rw [List.length_map] at hupd
        have hk3 : Kept (fun b => b ≠ w.heap.size + 3) W2 W3 := Kept.grown hgr3 (fun r e hr => by cases e; exact hr rfl)
        have hs3 := hk3.size
        have hnb : ∀ b, grpsOwn (w.heap.size + 2) (.slice vad gs.length vcap) gs b → b ≠ w.heap.size + 3 := fun b hb => by
          rcases grpsOwn_low HGG.out.grps hb with h | h <;> omega
        have hgr3' := HGG.out.grps.keep hk3 hnb
        have hbx3 := hgr3'.box
        have hbs3 := cell_keep HGG.out.bs hk3 (by show w.heap.size + 1 ≠ _; omega)
        have hbk3 := cell_keep HGG.out.bk hk3 (by show w.heap.size ≠ _; omega)
        have hbn3 := cell_keep HGG.out.bn hk3 (by show w.heap.size + 4 ≠ _; omega)
        have hs2' := HS2.out
        have hwW : w.heap.size + 5 ≤ W.heap.size := by have := HS5.out; have := HSZ.out; omega
        have ha3 : W3.heap[W.heap.size]? = some (.cells (vals.map (Value.int .i64)).toArray 3) := (hk3.block _ (by omega) (by omega)).trans HA1.out
        have hkA : rowEl.At ⟨some ⟨W.heap.size, 0, none⟩, vals.length, vals⟩ W3 := by
          refine ⟨⟨by show vals.length ≤ _; have := HVL.out; omega, fun j hj => ⟨W.heap.size, 0, rfl, ?_⟩⟩, fun a ha => by cases ha; show W.heap.size < _; omega, fun e => by cases e⟩
          have hj' : j < vals.length := hj
          rw [Nat.zero_add]
          exact cells_cell ha3 (by simp [List.getD, hj'])
        have hlen := HGG.out.len
        have hng : Calls Tryz.prog 105 #[.slice (some ⟨W.heap.size, 0, none⟩) vals.length vals.length, .int .i64 sxs.length] W3.drew fun e w' => e = .returned (.pointer (some ⟨W3.heap.size + 2, 0, none⟩)) ∧
          w'.heap[W3.heap.size + 2]? = some (.cells #[.slice (some ⟨W.heap.size, 0, none⟩) vals.length vals.length, .int .i64 0, .slice (some ⟨W3.heap.size + 1, 0, none⟩) sxs.length sxs.length] 138) ∧
          w'.heap[W3.heap.size + 1]? = some (.cells (List.replicate sxs.length (Value.int .i64 1073741824)).toArray 3) ∧ Below W3.heap.size W3.drew w' ∧ w'.heap.size = W3.heap.size + 3 := newGroup_any ⟨some ⟨W.heap.size, 0, none⟩, vals.length, vals⟩ sxs.length W3.drew HSL.out
        have HPUSH : Hid (∀ w4 : World, w4.heap[W3.heap.size + 2]? = some (.cells #[.slice (some ⟨W.heap.size, 0, none⟩) vals.length vals.length, .int .i64 0, .slice (some ⟨W3.heap.size + 1, 0, none⟩) sxs.length sxs.length] 138) → w4.heap[W3.heap.size + 1]? = some (.cells (List.replicate sxs.length (Value.int .i64 1073741824)).toArray 3) → Below W3.heap.size W3.drew w4 → w4.heap.size = W3.heap.size + 3 →
          ∃ v' w5, (Builtin.append_ #[121, 121] 121 #[.slice vad gs.length vcap, .slice (some ⟨w4.heap.size, 0, none⟩) 1 1]).run Tryz.prog (w4.alloc (.cells #[.pointer (some ⟨W3.heap.size + 2, 0, none⟩)] 123)) = .ok v' w5 ∧
            w5.cell? ⟨w.heap.size + 2, 0, none⟩ = some (.slice vad gs.length vcap) ∧ w5.frozen? ⟨w.heap.size + 2, 0, none⟩ = false ∧ (∃ a m c, v' = .slice a m c) ∧ ∃ v'', Grps 138 3 123 sxs.length (w.heap.size + 5) (w.heap.size + 2) (gs ++ [(⟨W3.heap.size + 2, W3.heap.size + 1, ⟨some ⟨W.heap.size, 0, none⟩, vals.length, vals⟩, 0, List.replicate sxs.length 1073741824⟩ : GrV)]) (w5.setCell ⟨w.heap.size + 2, 0, none⟩ v') v'' ∧ Kept (fun b => b ≠ w.heap.size + 2 ∧ (Value.slice vad gs.length vcap).ownBlock ≠ some b) W3 (w5.setCell ⟨w.heap.size + 2, 0, none⟩ v') ∧ ∀ b, grpsOwn (w.heap.size + 2) v'' (gs ++ [(⟨W3.heap.size + 2, W3.heap.size + 1, ⟨some ⟨W.heap.size, 0, none⟩, vals.length, vals⟩, 0, List.replicate sxs.length 1073741824⟩ : GrV)]) b → grpsOwn (w.heap.size + 2) (.slice vad gs.length vcap) gs b ∨ b = W.heap.size ∨ (W3.heap.size ≤ b ∧ b < (w5.setCell ⟨w.heap.size + 2, 0, none⟩ v').heap.size)) := by
          intro w4 p2 p1 pb ps
          have hkd : Kept (fun _ => True) W3 W3.drew := ⟨rfl, rfl, rfl, Nat.le_refl _, fun _ _ _ => rfl⟩
          obtain ⟨v', w5, hr, hc, hfz, hsl', hG', hk', ho'⟩ := push_group W3.drew w4 sxs.length (w.heap.size + 5) (w.heap.size + 2) gs (.slice vad gs.length vcap) (hgr3'.keep hkd (fun _ _ => trivial)) (by show _ ≤ W3.heap.size; omega) (by omega) ⟨some ⟨W.heap.size, 0, none⟩, vals.length, vals⟩ (rowEl.keep hkA (Nat.le_refl _) (fun _ _ _ => rfl)) (fun b hb => by
            have e : some W.heap.size = some b := hb
            cases e
            refine ⟨by omega, fun h => ?_⟩
            have := HG.out.grps.lt h
            omega) p2 p1 pb ps
          refine ⟨v', w5, hr, hc, hfz, hsl', v', hG', (hkd.mono fun _ _ _ => trivial).trans hk', fun b hb => ?_⟩
          rcases ho' b hb with h | h | h
          · exact .inl h
          · have e : some W.heap.size = some b := h
            cases e
            exact .inr (.inl rfl)
          · exact .inr (.inr h)
        have HR : Hid (∀ (wx : World) (v' : Value), Grps 138 3 123 sxs.length (w.heap.size + 5) (w.heap.size + 2) (gs ++ [(⟨W3.heap.size + 2, W3.heap.size + 1, ⟨some ⟨W.heap.size, 0, none⟩, vals.length, vals⟩, 0, List.replicate sxs.length 1073741824⟩ : GrV)]) wx v' → Kept (fun b => b ≠ w.heap.size + 2 ∧ (Value.slice vad gs.length vcap).ownBlock ≠ some b) W3 wx → (∀ b, grpsOwn (w.heap.size + 2) v' (gs ++ [(⟨W3.heap.size + 2, W3.heap.size + 1, ⟨some ⟨W.heap.size, 0, none⟩, vals.length, vals⟩, 0, List.replicate sxs.length 1073741824⟩ : GrV)]) b → grpsOwn (w.heap.size + 2) (.slice vad gs.length vcap) gs b ∨ b = W.heap.size ∨ (W3.heap.size ≤ b ∧ b < wx.heap.size)) →
            (∃ gr gcap, v' = .slice (some ⟨gr, 0, none⟩) (gs.length + 1) gcap ∧ wx.cell? ⟨gr, gs.length, none⟩ = some (.pointer (some ⟨W3.heap.size + 2, 0, none⟩))) ∧ wx.cell? ⟨w.heap.size + 2, 0, none⟩ = some v' ∧ wx.cell? ⟨w.heap.size + 1, 0, none⟩ = some (.slice sad sxs.length scap) ∧
            Calls Tryz.prog 106 #[.pointer (some ⟨W3.heap.size + 2, 0, none⟩), x.val, .slice sad sxs.length scap] wx.drew fun e W7 => (∃ u, e = .returned u) ∧
              ∃ o2, (∃ gs' v', GI Tryz.prog 138 3 123 134 ⟨kad, kcap, kxs⟩ ⟨sad, scap, sxs⟩ w (pre ++ [x]) gs' o2 W7 v') ∧ Kept (fun b => ¬ o1 b) W W7 ∧ ∀ b, o2 b → o1 b ∨ (W.heap.size ≤ b ∧ b < W7.heap.size) ∨ (rowEl.blk x = some b ∧ wc.heap.size ≤ b)) := by
          intro wx v' hG' hk' ho'
          have hi : gs.length < (gs ++ [(⟨W3.heap.size + 2, W3.heap.size + 1, ⟨some ⟨W.heap.size, 0, none⟩, vals.length, vals⟩, 0, List.replicate sxs.length 1073741824⟩ : GrV)]).length := by simp
          have hgi : (gs ++ [(⟨W3.heap.size + 2, W3.heap.size + 1, ⟨some ⟨W.heap.size, 0, none⟩, vals.length, vals⟩, 0, List.replicate sxs.length 1073741824⟩ : GrV)])[gs.length] = (⟨W3.heap.size + 2, W3.heap.size + 1, ⟨some ⟨W.heap.size, 0, none⟩, vals.length, vals⟩, 0, List.replicate sxs.length 1073741824⟩ : GrV) := by simp
          have hgb : (gs ++ [(⟨W3.heap.size + 2, W3.heap.size + 1, ⟨some ⟨W.heap.size, 0, none⟩, vals.length, vals⟩, 0, List.replicate sxs.length 1073741824⟩ : GrV)])[gs.length].gb = W3.heap.size + 2 := by rw [hgi]
          have hsb : (gs ++ [(⟨W3.heap.size + 2, W3.heap.size + 1, ⟨some ⟨W.heap.size, 0, none⟩, vals.length, vals⟩, 0, List.replicate sxs.length 1073741824⟩ : GrV)])[gs.length].sb = W3.heap.size + 1 := by rw [hgi]
          have hvo : ∀ b, (Value.slice vad gs.length vcap).ownBlock = some b → w.heap.size + 5 ≤ b := fun b hb => (ownsRow_lt HGG.out.grps.own hb).1
          have hlowx : ∀ b, b < w.heap.size + 5 → b ≠ w.heap.size + 2 → b ≠ w.heap.size + 2 ∧ (Value.slice vad gs.length vcap).ownBlock ≠ some b := fun b hb hne => ⟨hne, fun e => by have := hvo b e; omega⟩
          have hbkx := cell_keep hbk3 hk' (hlowx _ (by show w.heap.size < _; omega) (by show w.heap.size ≠ _; omega))
          have hbsx := cell_keep hbs3 hk' (hlowx _ (by show w.heap.size + 1 < _; omega) (by show w.heap.size + 1 ≠ _; omega))
          have hbnx := cell_keep hbn3 hk' (hlowx _ (by show w.heap.size + 4 < _; omega) (by show w.heap.size + 4 ≠ _; omega))
          have hmapx : MapAt Tryz.prog 134 3 kxs.length (w.heap.size + 3) (pre.length + 2) ((gs ++ [(⟨W3.heap.size + 2, W3.heap.size + 1, ⟨some ⟨W.heap.size, 0, none⟩, vals.length, vals⟩, 0, List.replicate sxs.length 1073741824⟩ : GrV)]).map (·.k.xs)) wx := by
            rw [List.map_append]
            exact hM3.keep (hk'.block _ hM3.lt (hlowx _ (by omega) (by omega)))
          have hsumx : ∀ g ∈ gs ++ [(⟨W3.heap.size + 2, W3.heap.size + 1, ⟨some ⟨W.heap.size, 0, none⟩, vals.length, vals⟩, 0, List.replicate sxs.length 1073741824⟩ : GrV)], sumsB g ∧ g.cnt ≤ pre.length := by
            intro g hg
            rcases List.mem_append.1 hg with hg | hg
            · exact HGG.out.sums g hg
            · rw [List.mem_singleton] at hg
              rw [hg]
              exact ⟨sumsB_new _ _ _ _, Nat.zero_le _⟩
          have hkW3 : ∀ s : Nat → Prop, (∀ b, b < W.heap.size → s b → b ≠ w.heap.size + 3) → Kept s W W3 := fun s hs => (Kept.of_below HB2.out (fun b hb _ => hb)).trans' (t := fun b => b < W.heap.size ∧ s b) (hk3.mono fun b _ h => hs b h.1 h.2) (fun b hb h => ⟨hb, h⟩)
          have hbelx : Below w.heap.size w wx := (HG.out.below.trans ((hkW3 (fun b => b < w.heap.size) (fun b _ h => by omega)).below (by omega) (fun b hb => hb))).trans (hk'.below (by have := HG.out.below.size; omega) (fun b hb => hlowx b (by omega) (by omega)))
          have hxo1 : ∀ b, rowEl.blk x = some b → ¬ grpsOwn (w.heap.size + 2) (.slice vad gs.length vcap) gs b ∧ b ≠ w.heap.size + 3 ∧ b < W.heap.size := fun b hb => ⟨fun h => (HOFF.out b hb).1 ((HG.out.iff b).2 (.inl h)), fun h => (HOFF.out b hb).1 ((HG.out.iff b).2 (.inr h)), rowEl.inn HX.out hb⟩
          have hxx : rowEl.At x wx := by
            refine rowEl.keep (rowEl.keep HX.out (Nat.le_trans HB2.out.size hs3) (fun b hb hbl => (hkW3 (fun b => b ≠ w.heap.size + 3) (fun b _ h => h)).block b hb (hxo1 b hbl).2.1)) hk'.size (fun b hb hbl => hk'.block b hb ⟨fun e => (hxo1 b hbl).1 (.inl e), fun e => (hxo1 b hbl).1 (.inr (.inl e))⟩)
          have hxo : ∀ b, rowEl.blk x = some b → ¬ grpsOwn (w.heap.size + 2) v' (gs ++ [(⟨W3.heap.size + 2, W3.heap.size + 1, ⟨some ⟨W.heap.size, 0, none⟩, vals.length, vals⟩, 0, List.replicate sxs.length 1073741824⟩ : GrV)]) b := fun b hb h => by
            have h1 := hxo1 b hb
            rcases ho' b h with h | h | h
            · exact h1.1 h
            · omega
            · omega
          have hadd := add_facts w wx (gs ++ [(⟨W3.heap.size + 2, W3.heap.size + 1, ⟨some ⟨W.heap.size, 0, none⟩, vals.length, vals⟩, 0, List.replicate sxs.length 1073741824⟩ : GrV)]) v' ⟨sad, scap, sxs⟩ x hG' hbelx HSC.out HSL.out hxx hxo (fun g hg => ⟨(hsumx g hg).1, by have := (hsumx g hg).2; omega⟩) (HSM.out _ HXM.out) (HSI.out _ HXM.out) hi
          have hpt : Value.pointer (some ⟨(gs ++ [(⟨W3.heap.size + 2, W3.heap.size + 1, ⟨some ⟨W.heap.size, 0, none⟩, vals.length, vals⟩, 0, List.replicate sxs.length 1073741824⟩ : GrV)])[gs.length].gb, 0, none⟩) = Value.pointer (some ⟨W3.heap.size + 2, 0, none⟩) := by rw [hgb]
          rw [hpt] at hadd
          refine ⟨?_, hG'.box, hbsx, hadd.mono ?_⟩
          · obtain ⟨gr, gcap, hv, hc⟩ := ownsRow_cell hG'.own (i := gs.length) (by simp)
            refine ⟨gr, gcap, by rw [hv]; simp, ?_⟩
            rw [hc, List.getElem?_map, List.getElem?_eq_getElem hi, hgi]
            rfl
          · rintro e W7 ⟨hu, r1, r2, r3, r4⟩
            refine ⟨hu, _, ⟨_, _, GI.bumped (x := x) hG' hmapx hsumx hbkx hbsx hbnx hbelx hi (fold_miss HGG.out.fold (by rw [HVALS.out]; exact hf) (by show (⟨vals, 0, List.replicate sxs.length 1073741824⟩ : Gr) = newG _ _; rw [HVALS.out]; rfl)) (HSM.out _ HXM.out) r1 r2 r3⟩, ?_, fun b hb => ?_⟩
            · have h1 : Kept (fun b => ¬ o1 b) W W3 := hkW3 _ (fun b _ h e => h ((HG.out.iff b).2 (.inr e)))
              have h2 : Kept (fun b => ¬ o1 b) W3 wx := hk'.mono fun b _ h => ⟨fun e => h ((HG.out.iff b).2 (.inl (.inl e))), fun e => h ((HG.out.iff b).2 (.inl (.inr (.inl e))))⟩
              refine (h1.trans h2).trans' (t := fun b => b < W.heap.size) (r3.mono fun b _ h => ?_) (fun b hb _ => hb)
              rw [hgb, hsb]
              omega
            · have hs7 : wx.heap.size ≤ W7.heap.size := r3.size
              have hs' := hk'.size
              rcases hb with hb | hb
              · rcases ho' b hb with h | h | h
                · exact .inl ((HG.out.iff b).2 (.inl h))
                · exact .inr (.inl ⟨by omega, by omega⟩)
                · exact .inr (.inl ⟨by omega, by omega⟩)
              · exact .inl ((HG.out.iff b).2 (.inr hb))
        have HK3 : Hid _ := hk3
        have HS3 : Hid _ := hs3
        have HM3 : Hid _ := hM3
        have HBK3 : Hid _ := hbk3
        have HBN3 : Hid _ := hbn3
        have HBS3 : Hid _ := hbs3
        have HGR3 : Hid _ := hgr3'
        have HF : Hid _ := hf
        have HLE : Hid _ := hlen
        have HWW : Hid _ := hwW
        clear hf hk3 hs3 hM3 hbk3 hbn3 hgr3' hgr3 hnb hs2' hwW ha3 hkA hlen
        have hfol : Tryz.prog.follows .mixedOrders = true := by kernel_rfl
        obtain ⟨xad, xcap, xxs⟩ := x
        unfold IntsV.val at *
        simp only at *
        gi_upto_region 15 with (refine ⟨trivial, rfl, CallsIn.inRound l (callsIn_wide.2 (hpk.mono ?_))⟩; rintro e w4 ⟨rfl, rfl⟩)
        gi_cut [] from 47 (fun wx => ∃ v', Grps 138 3 123 sxs.length (w.heap.size + 5) (w.heap.size + 2) (gs ++ [(⟨W3.heap.size + 2, W3.heap.size + 1, ⟨some ⟨W.heap.size, 0, none⟩, vals.length, vals⟩, 0, List.replicate sxs.length 1073741824⟩ : GrV)]) wx v' ∧ Kept (fun b => b ≠ w.heap.size + 2 ∧ (Value.slice vad gs.length vcap).ownBlock ≠ some b) W3 wx ∧ ∀ b, grpsOwn (w.heap.size + 2) v' (gs ++ [(⟨W3.heap.size + 2, W3.heap.size + 1, ⟨some ⟨W.heap.size, 0, none⟩, vals.length, vals⟩, 0, List.replicate sxs.length 1073741824⟩ : GrV)]) b → grpsOwn (w.heap.size + 2) (.slice vad gs.length vcap) gs b ∨ b = W.heap.size ∨ (W3.heap.size ≤ b ∧ b < wx.heap.size))
        case first =>
          refine wpIn_region_any hfol (anyIn_round (noDefer_spec (by kernel_rfl)) _ _ _ _ ?_)
          change wpAnyIn _ _ _ _ _ _ _ _ _ (World.drew _)
          refine wpAnyIn_take (i := 1) (v := .slice (some ⟨W.heap.size, 0, none⟩) vals.length vals.length) rfl rfl (by kernel_rfl) (by kernel_rfl) (by kernel_rfl) (fun _ _ _ h => h) ⟨Or.inl ⟨by rfl, fun w => by go_simp⟩, fun _ => rfl⟩ ?_
          refine wpAnyIn_ready (rs := [0, 2]) (by kernel_rfl) (by simp) ?_
          refine AllReadyIn.cons rfl (fun K hK => ?_) ?_
          · go_simp
            refine hK _ _ ?_
            clear hK K
            refine wpAnyIn_ready (rs := [2]) (by kernel_rfl) (by simp) ?_
            refine AllReadyIn.cons rfl (fun K hK => ?_) AllReadyIn.nil
            go_simp
            refine hK _ _ ?_
            clear hK K
            refine wpAnyIn_take (i := 3) (v := .int .i64 (sxs.length : Int)) rfl rfl (by kernel_rfl) (by kernel_rfl) (by kernel_rfl) (fun _ _ _ h => h) ⟨Or.inl ⟨by rfl, fun w => by go_simp⟩, fun _ => rfl⟩ ?_
            refine wpAnyIn_ready (rs := [4]) (by kernel_rfl) (by simp) ?_
            refine AllReadyIn.cons rfl (fun K hK => ?_) AllReadyIn.nil
            go_simp
            refine ⟨trivial, rfl, callsIn_wide.2 (hng.mono ?_)⟩
            rintro e w4 ⟨rfl, p2', p1', pb', ps'⟩
            obtain ⟨v5, w5, hr5, hc5, hf5, ⟨va5, vm5, vq5, rfl⟩, hfin⟩ := HPUSH.out w4 p2' p1' pb' ps'
            have hb4 := cell_keep (A := W3.drew) hbx3 (Kept.of_below (s := fun _ => True) pb' (fun b hb _ => hb)) trivial
            have hb4a := cell_keep hb4 (Kept.alloc (s := fun _ => True) w4 (.cells #[.pointer (some ⟨W3.heap.size + 2, 0, none⟩)] 123)) trivial
            clear p2' p1' pb' ps'
            refine hK _ _ ?_
            clear hK K
            refine wpAnyIn_ready (rs := [5]) (by kernel_rfl) (by simp) ?_
            refine AllReadyIn.cons rfl (fun K hK => ?_) AllReadyIn.nil
            go_simp
            refine hK _ _ ?_
            clear hK K
            refine wpAnyIn_ready (rs := [6]) (by kernel_rfl) (by simp) ?_
            refine AllReadyIn.cons rfl (fun K hK => ?_) AllReadyIn.nil
            refine stepIn_append (by rfl) _ _ _ (by rfl) (.slice vad gs.length vcap) (.slice (some ⟨w4.heap.size, 0, none⟩) 1 1) (.slice va5 vm5 vq5) w5 (by rfl) (by rfl) hr5 ?_
            refine hK _ _ ?_
            clear hK K
            refine wpAnyIn_ready (rs := [7]) (by kernel_rfl) (by simp) ?_
            refine AllReadyIn.cons rfl (fun K hK => ?_) AllReadyIn.nil
            go_simp
            refine hK _ _ ?_
            clear hK K
            refine wpAnyIn_done (by kernel_rfl) ?_ _
            gi_wp2_with fail
            gi_meet
            exact hfin
          refine AllReadyIn.cons rfl (fun K hK => ?_) AllReadyIn.nil
          go_simp
          refine hK _ _ ?_
          clear hK K
          refine wpAnyIn_take (i := 3) (v := .int .i64 (sxs.length : Int)) rfl rfl (by kernel_rfl) (by kernel_rfl) (by kernel_rfl) (fun _ _ _ h => h) ⟨Or.inl ⟨by rfl, fun w => by go_simp⟩, fun _ => rfl⟩ ?_
          refine wpAnyIn_ready (rs := [0, 4]) (by kernel_rfl) (by simp) ?_
          refine AllReadyIn.cons rfl (fun K hK => ?_) ?_
          · go_simp
            refine hK _ _ ?_
            clear hK K
            refine wpAnyIn_ready (rs := [4]) (by kernel_rfl) (by simp) ?_
            refine AllReadyIn.cons rfl (fun K hK => ?_) AllReadyIn.nil
            go_simp
            refine ⟨trivial, rfl, callsIn_wide.2 (hng.mono ?_)⟩
            rintro e w4 ⟨rfl, p2', p1', pb', ps'⟩
            obtain ⟨v5, w5, hr5, hc5, hf5, ⟨va5, vm5, vq5, rfl⟩, hfin⟩ := HPUSH.out w4 p2' p1' pb' ps'
            have hb4 := cell_keep (A := W3.drew) hbx3 (Kept.of_below (s := fun _ => True) pb' (fun b hb _ => hb)) trivial
            have hb4a := cell_keep hb4 (Kept.alloc (s := fun _ => True) w4 (.cells #[.pointer (some ⟨W3.heap.size + 2, 0, none⟩)] 123)) trivial
            clear p2' p1' pb' ps'
            refine hK _ _ ?_
            clear hK K
            refine wpAnyIn_ready (rs := [5]) (by kernel_rfl) (by simp) ?_
            refine AllReadyIn.cons rfl (fun K hK => ?_) AllReadyIn.nil
            go_simp
            refine hK _ _ ?_
            clear hK K
            refine wpAnyIn_ready (rs := [6]) (by kernel_rfl) (by simp) ?_
            refine AllReadyIn.cons rfl (fun K hK => ?_) AllReadyIn.nil
            refine stepIn_append (by rfl) _ _ _ (by rfl) (.slice vad gs.length vcap) (.slice (some ⟨w4.heap.size, 0, none⟩) 1 1) (.slice va5 vm5 vq5) w5 (by rfl) (by rfl) hr5 ?_
            refine hK _ _ ?_
            clear hK K
            refine wpAnyIn_ready (rs := [7]) (by kernel_rfl) (by simp) ?_
            refine AllReadyIn.cons rfl (fun K hK => ?_) AllReadyIn.nil
            go_simp
            refine hK _ _ ?_
            clear hK K
            refine wpAnyIn_done (by kernel_rfl) ?_ _
            gi_wp2_with fail
            gi_meet
            exact hfin
          refine AllReadyIn.cons rfl (fun K hK => ?_) AllReadyIn.nil
          go_simp
          refine ⟨trivial, rfl, callsIn_wide.2 (hng.mono ?_)⟩
          rintro e w4 ⟨rfl, p2', p1', pb', ps'⟩
          obtain ⟨v5, w5, hr5, hc5, hf5, ⟨va5, vm5, vq5, rfl⟩, hfin⟩ := HPUSH.out w4 p2' p1' pb' ps'
          have hb4 := cell_keep (A := W3.drew) hbx3 (Kept.of_below (s := fun _ => True) pb' (fun b hb _ => hb)) trivial
          have hb4a := cell_keep hb4 (Kept.alloc (s := fun _ => True) w4 (.cells #[.pointer (some ⟨W3.heap.size + 2, 0, none⟩)] 123)) trivial
          clear p2' p1' pb' ps'
          refine hK _ _ ?_
          clear hK K
          refine wpAnyIn_ready (rs := [0, 5]) (by kernel_rfl) (by simp) ?_
          refine AllReadyIn.cons rfl (fun K hK => ?_) ?_
          · go_simp
            refine hK _ _ ?_
            clear hK K
            refine wpAnyIn_ready (rs := [5]) (by kernel_rfl) (by simp) ?_
            refine AllReadyIn.cons rfl (fun K hK => ?_) AllReadyIn.nil
            go_simp
            refine hK _ _ ?_
            clear hK K
            refine wpAnyIn_ready (rs := [6]) (by kernel_rfl) (by simp) ?_
            refine AllReadyIn.cons rfl (fun K hK => ?_) AllReadyIn.nil
            refine stepIn_append (by rfl) _ _ _ (by rfl) (.slice vad gs.length vcap) (.slice (some ⟨w4.heap.size, 0, none⟩) 1 1) (.slice va5 vm5 vq5) w5 (by rfl) (by rfl) hr5 ?_
            refine hK _ _ ?_
            clear hK K
            refine wpAnyIn_ready (rs := [7]) (by kernel_rfl) (by simp) ?_
            refine AllReadyIn.cons rfl (fun K hK => ?_) AllReadyIn.nil
            go_simp
            refine hK _ _ ?_
            clear hK K
            refine wpAnyIn_done (by kernel_rfl) ?_ _
            gi_wp2_with fail
            gi_meet
            exact hfin
          refine AllReadyIn.cons rfl (fun K hK => ?_) AllReadyIn.nil
          go_simp
          refine hK _ _ ?_
          clear hK K
          refine wpAnyIn_ready (rs := [0]) (by kernel_rfl) (by simp) ?_
          refine AllReadyIn.cons rfl (fun K hK => ?_) AllReadyIn.nil
          go_simp
          refine hK _ _ ?_
          clear hK K
          refine wpAnyIn_ready (rs := [6]) (by kernel_rfl) (by simp) ?_
          refine AllReadyIn.cons rfl (fun K hK => ?_) AllReadyIn.nil
          refine stepIn_append (by rfl) _ _ _ (by rfl) (.slice vad gs.length vcap) (.slice (some ⟨w4.heap.size, 0, none⟩) 1 1) (.slice va5 vm5 vq5) w5 (by rfl) (by rfl) hr5 ?_
          refine hK _ _ ?_
          clear hK K
          refine wpAnyIn_ready (rs := [7]) (by kernel_rfl) (by simp) ?_
          refine AllReadyIn.cons rfl (fun K hK => ?_) AllReadyIn.nil
          go_simp
          refine hK _ _ ?_
          clear hK K
          refine wpAnyIn_done (by kernel_rfl) ?_ _
          gi_wp2_with fail
          gi_meet
          exact hfin
        case rest =>
          obtain ⟨v', hG', hk', ho'⟩ := hcut
          obtain ⟨⟨gr, gcap, rfl, hci⟩, hbxx, hbsx, hadd⟩ := HR.out _ v' hG' hk' ho'
          clear hG' hk' ho' hbx3 hbs3 hng hupd hlook hcp hpk q0 q1 q2 q3 hbk hbn2 hbs2 hbx2
          have hil : ¬ ((gs.length : Int) + 1 ≤ (gs.length : Int)) := by omega
          gi_wp2_with fail
          refine wpIn_region_any hfol (anyIn_round (noDefer_spec (by kernel_rfl)) _ _ _ _ ?_)
          change wpAnyIn _ _ _ _ _ _ _ _ _ (World.drew _)
          refine wpAnyIn_take (i := 1) (v := .int .i64 (gs.length : Int)) rfl rfl (by kernel_rfl) (by kernel_rfl) (by kernel_rfl) (fun _ _ _ h => h) ⟨Or.inl ⟨by rfl, fun w => by go_simp⟩, fun _ => rfl⟩ ?_
          refine wpAnyIn_take (i := 4) (v := .slice xad xxs.length xcap) rfl rfl (by kernel_rfl) (by kernel_rfl) (by kernel_rfl) (fun _ _ _ h => h) ⟨Or.inl ⟨by rfl, fun w => by go_simp⟩, fun _ => rfl⟩ ?_
          refine wpAnyIn_ready (rs := [0, 5]) (by kernel_rfl) (by simp) ?_
          refine AllReadyIn.cons rfl (fun K hK => ?_) ?_
          · go_simp
            refine hK _ _ ?_
            clear hK K
            refine wpAnyIn_take (i := 2) (v := .pointer (some ⟨gr, gs.length, none⟩)) rfl rfl (by kernel_rfl) (by kernel_rfl) (by kernel_rfl) (fun _ _ _ h => h) ⟨Or.inl ⟨by rfl, fun w => by go_simp⟩, fun _ => rfl⟩ ?_
            refine wpAnyIn_ready (rs := [3, 5]) (by kernel_rfl) (by simp) ?_
            refine AllReadyIn.cons rfl (fun K hK => ?_) ?_
            · go_simp
              refine hK _ _ ?_
              clear hK K
              refine wpAnyIn_ready (rs := [5]) (by kernel_rfl) (by simp) ?_
              refine AllReadyIn.cons rfl (fun K hK => ?_) AllReadyIn.nil
              go_simp
              refine hK _ _ ?_
              clear hK K
              refine wpAnyIn_ready (rs := [6]) (by kernel_rfl) (by simp) ?_
              refine AllReadyIn.cons rfl (fun K hK => ?_) AllReadyIn.nil
              go_simp
              refine ⟨trivial, rfl, callsIn_wide.2 (hadd.mono ?_)⟩
              rintro e W7 ⟨⟨u7, rfl⟩, r7⟩
              refine hK _ _ ?_
              clear hK K
              refine wpAnyIn_done (by kernel_rfl) ?_ _
              exact r7
            refine AllReadyIn.cons rfl (fun K hK => ?_) AllReadyIn.nil
            go_simp
            refine hK _ _ ?_
            clear hK K
            refine wpAnyIn_ready (rs := [3]) (by kernel_rfl) (by simp) ?_
            refine AllReadyIn.cons rfl (fun K hK => ?_) AllReadyIn.nil
            go_simp
            refine hK _ _ ?_
            clear hK K
            refine wpAnyIn_ready (rs := [6]) (by kernel_rfl) (by simp) ?_
            refine AllReadyIn.cons rfl (fun K hK => ?_) AllReadyIn.nil
            go_simp
            refine ⟨trivial, rfl, callsIn_wide.2 (hadd.mono ?_)⟩
            rintro e W7 ⟨⟨u7, rfl⟩, r7⟩
            refine hK _ _ ?_
            clear hK K
            refine wpAnyIn_done (by kernel_rfl) ?_ _
            exact r7
          refine AllReadyIn.cons rfl (fun K hK => ?_) AllReadyIn.nil
          go_simp
          refine hK _ _ ?_
          clear hK K
          refine wpAnyIn_ready (rs := [0]) (by kernel_rfl) (by simp) ?_
          refine AllReadyIn.cons rfl (fun K hK => ?_) AllReadyIn.nil
          go_simp
          refine hK _ _ ?_
          clear hK K
          refine wpAnyIn_take (i := 2) (v := .pointer (some ⟨gr, gs.length, none⟩)) rfl rfl (by kernel_rfl) (by kernel_rfl) (by kernel_rfl) (fun _ _ _ h => h) ⟨Or.inl ⟨by rfl, fun w => by go_simp⟩, fun _ => rfl⟩ ?_
          refine wpAnyIn_ready (rs := [3]) (by kernel_rfl) (by simp) ?_
          refine AllReadyIn.cons rfl (fun K hK => ?_) AllReadyIn.nil
          go_simp
          refine hK _ _ ?_
          clear hK K
          refine wpAnyIn_ready (rs := [6]) (by kernel_rfl) (by simp) ?_
          refine AllReadyIn.cons rfl (fun K hK => ?_) AllReadyIn.nil
          go_simp
          refine ⟨trivial, rfl, callsIn_wide.2 (hadd.mono ?_)⟩
          rintro e W7 ⟨⟨u7, rfl⟩, r7⟩
          refine hK _ _ ?_
          clear hK K
          refine wpAnyIn_done (by kernel_rfl) ?_ _
          exact r7
    case done =>
      rintro ys o' W2 hys ⟨gs, v, hG⟩ hk2 hg2 hD
      have hc := hG.grps.box
      obtain ⟨va, vn, vc, rfl⟩ := ownsRow_slice hG.grps.own
      have HG : Hid _ := hG
      have HYS : Hid _ := hys
      have HG2 : Hid _ := hg2
      clear hG hys hk2 hg2
      gi_wp2
      have hnD : ¬ o' wc.heap.size := fun h => by
        rcases HG2.out _ h with h | h
        · rcases h with h | h
          · have := HGI0.out.grps.lt h; omega
          · have := HS5.out; omega
        · omega
      have hfin := HG.out.keep (Kept.putObj (s := fun b => b ≠ wc.heap.size) W2 (.deferred none) (fun h => h rfl)) (fun b hb e => by
        rcases hb with hb | hb
        · exact hnD (e ▸ hb)
        · have := HS5.out; omega)
      refine ⟨by simp, .inl ⟨_, _, rfl, run_takeDeferred hD, ?_⟩⟩
      refine ⟨_, results_tmp rfl _ _ _, .slice va vn vc, gs, rfl, ?_, hfin.grps, hfin.below⟩
      rw [hfin.fold]
      unfold groupsN
      have hys' : ys.map IntsV.xs = rows := HYS.out
      rw [← hys', List.foldl_map]

end Go.Proofs.YtlpbelhfpoilpaaGreat

