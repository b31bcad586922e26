import Derived.Test.YtlpbelhfpoilpaaCMkA
import Derived.Test.YtlpbelhfpoilpaaCGrJ
import Derived.Test.YtlpbelhfpoilpaaCGrE
set_option linter.all false
namespace Go.Scout
open Go.RowKit

theorem ownEl_of_own {w : World} {base : Nat} {e : TypeId} {v : Value} {n : Nat} {xs : List Int} (h : w.ownsRow base e 1 v n (xs.map (Value.int .i64))) (hl : xs.length ≤ 1152921504606846976) :
    ∃ iv : IntsV, v = iv.val ∧ iv.xs = xs ∧ (ownEl e).At iv w ∧ ∀ b, rowEl.blk iv = some b → base ≤ b := by
  obtain ⟨iv, hv, hx, hA, hb⟩ := rowEl_of_own h hl
  have hn : xs.length = n := by have := h.1; simpa using this
  refine ⟨iv, hv, hx, ⟨hA, ?_⟩, hb⟩
  rw [← hv, hx, hn]
  refine ⟨h.1, ?_⟩
  rcases h.2 with h' | ⟨g, cap, cur, h1, h2, h3⟩
  · exact .inl h'
  · exact .inr ⟨g, cap, cur, h1, Nat.zero_le _, h3⟩

theorem stepG_bound {kc sc : List Int} {m : Nat} {a : List Gr} {row : List Int} (h : ∀ g ∈ a, g.key.length ≤ kc.length ∧ g.cnt ≤ m) : ∀ g ∈ stepG kc sc a row, g.key.length ≤ kc.length ∧ g.cnt ≤ m + 1 := by
  intro g hg
  unfold stepG at hg
  split at hg
  · obtain ⟨j, hj, rfl⟩ := List.getElem_of_mem hg
    rw [List.length_modify] at hj
    rw [List.getElem_modify]
    have h1 := h _ (List.getElem_mem hj)
    split
    · exact ⟨h1.1, by show a[j].cnt + 1 ≤ _; omega⟩
    · exact ⟨h1.1, by omega⟩
  · rcases List.mem_append.1 hg with hg | hg
    · have h1 := h g hg
      exact ⟨h1.1, by omega⟩
    · rw [List.mem_singleton] at hg
      subst hg
      exact ⟨by simp [addG, newG, pickN], by simp [addG, newG]⟩

theorem foldG_bound {kc sc : List Int} : ∀ (rows : List (List Int)) (m : Nat) (a : List Gr), (∀ g ∈ a, g.key.length ≤ kc.length ∧ g.cnt ≤ m) → ∀ g ∈ rows.foldl (stepG kc sc) a, g.key.length ≤ kc.length ∧ g.cnt ≤ m + rows.length
  | [], m, a, h => by simpa using h
  | r :: l, m, a, h => by
    rw [List.foldl_cons]
    intro g hg
    have := foldG_bound l (m + 1) _ (stepG_bound h) g hg
    rw [List.length_cons]
    omega

theorem groupsN_bound {kc sc : List Int} {rows : List (List Int)} : ∀ g ∈ groupsN kc sc rows, g.key.length ≤ kc.length ∧ g.cnt ≤ rows.length := by
  intro g hg
  unfold groupsN at hg
  have := foldG_bound rows 0 (startG kc sc) (fun g hg => by
    unfold startG at hg
    split at hg
    · rw [List.mem_singleton] at hg
      subst hg
      exact ⟨Nat.zero_le _, Nat.le_refl _⟩
    · simp at hg) g hg
  omega

theorem ptr_cell {tg ti tp : TypeId} {n base bg : Nat} {gs : List GrV} {A : World} {v : Value} (h : Grps tg ti tp n base bg gs A v) {i : Nat} (hi : i < gs.length) : ∃ g cap, v = .slice (some ⟨g, 0, none⟩) gs.length cap ∧ A.cell? ⟨g, i, none⟩ = some (.pointer (some ⟨gs[i].gb, 0, none⟩)) := by
  obtain ⟨g, cap, hv, hc⟩ := ownsRow_cell h.own hi
  refine ⟨g, cap, hv, ?_⟩
  rw [hc, List.getElem?_map, List.getElem?_eq_getElem hi]
  rfl

end Go.Scout
namespace Go.Proofs.Ytlpbelhfpoilpaa
open Go.RowKit Go.Scout Go.Shelf

attribute [local go_sem] Oper.semAt_some

set_option maxRecDepth 100000 in
set_option maxHeartbeats 8000000 in
theorem group_seq (bi bk bs gi : Nat) (lbi : Array Value) (kc sc : IntsV) (rows : List (List Int)) (w0 : World) (hbi : bi < w0.heap.size) (hbk : bk < w0.heap.size) (hbs : bs < w0.heap.size)
    (hci : w0.cell? ⟨bi, 0, none⟩ = some (.func (.func gi) #[] lbi)) (hck : w0.cell? ⟨bk, 0, none⟩ = some kc.val) (hcs : w0.cell? ⟨bs, 0, none⟩ = some sc.val) (hkc : kc.At w0) (hsc : sc.At w0) (hkl : kc.xs.length ≤ 4) (hsl : sc.xs.length ≤ 4)
    (hseq : Seq rowEl Try.prog gi lbi rows w0) (egi : ∀ args w, (callFunc gi args).run Try.prog w = .ok (.enter gi args) w) (hlen : rows.length ≤ 1000000) (hkin : ∀ r ∈ rows, allB kc.xs r.length = true) (hsin : ∀ r ∈ rows, allB sc.xs r.length = true) (hsm : ∀ r ∈ rows, ∀ v ∈ r, smallI v) :
    Seq (ownEl 3) Try.prog 92 #[.pointer (some ⟨bi, 0, none⟩), .pointer (some ⟨bk, 0, none⟩), .pointer (some ⟨bs, 0, none⟩)] ((groupsN kc.xs sc.xs rows).map Gr.row) w0 := by
  intro l J W o hW ho hJ hY h0
  have c1 := (hW.cell (p := ⟨bi, 0, none⟩) hbi).trans hci
  have c2 := (hW.cell (p := ⟨bk, 0, none⟩) hbk).trans hck
  have c3 := (hW.cell (p := ⟨bs, 0, none⟩) hbs).trans hcs
  have hgg := gatherGroups_any gi lbi kc sc rows w0 W hW hseq egi (IntsAt.below hW hkc) (IntsAt.below hW hsc) hkl hsl hlen hkin hsin hsm
  have hgl : (groupsN kc.xs sc.xs rows).length ≤ 1000001 := by
    have h := fold_len kc.xs sc.xs (rows.map fun r => (⟨none, 0, r⟩ : IntsV)) (startG kc.xs sc.xs)
    rw [List.foldl_map, List.length_map] at h
    have h3 : (startG kc.xs sc.xs).length ≤ 1 := by unfold startG; split <;> simp
    have h' : (rows.foldl (Go.Scout.stepG kc.xs sc.xs) (startG kc.xs sc.xs)).length ≤ (startG kc.xs sc.xs).length + rows.length := h
    unfold groupsN
    omega
  have HGL : Hid _ := hgl
  have HY : Hid _ := hY
  have HO : Hid _ := ho
  have HW : Hid _ := hW
  have HJ : Hid _ := hJ
  have HSL : Hid _ := hsl
  have HKL : Hid _ := hkl
  have HLEN : Hid _ := hlen
  have HKEY : Hid (∀ g ∈ groupsN kc.xs sc.xs rows, g.key.length ≤ kc.xs.length ∧ g.cnt ≤ rows.length) := fun g hg => groupsN_bound g hg
  clear hY ho hW hJ hgl hseq egi hlen hkin hsin hsm hkc hsc hci hck hcs hbi hbk hbs hkl hsl
  obtain ⟨kad, kcap, kxs⟩ := kc
  obtain ⟨sad, scap, sxs⟩ := sc
  unfold IntsV.val at *
  simp only at *
  refine (callsIn_wide (n := 0)).1 (callsIn_of_wp Try.func92 rfl trivial ?_ rfl)
  simp only [Try.ntmps92, List.size_toArray, List.length_cons, List.length_nil, Nat.reduceAdd, Nat.reduceSub, Array.replicate_succ, Array.replicate_zero, List.push_toArray, List.append_toArray, List.nil_append, List.cons_append]
  gi_wp2
  refine ⟨trivial, rfl, callsIn_wide.2 (hgg.mono ?_)⟩
  rintro e Wg ⟨v, gs, rfl, hgs, hGr, hbg⟩
  clear hgg
  obtain ⟨vad, vcap, rfl⟩ := ownsRow_len hGr.own
  have hsg := hbg.size
  have h0' := HJ.out _ _ _ _ h0 (Kept.of_below (s := fun b => o b ∨ b < W.heap.size) hbg (fun b hb _ => hb))
  have hgsl : gs.length ≤ 1000001 := by
    have := congrArg List.length hgs
    rw [List.length_map] at this
    have := HGL.out
    omega
  have HBG : Hid _ := hbg
  have HSG : Hid _ := hsg
  have HGR : Hid _ := hGr
  have HGS : Hid _ := hgs
  clear hbg hsg hGr hgs c1 c2 c3 h0
  gi_wp2
  gi_loopw [12] (fun i wr => ∃ k : Nat, k ≤ gs.length ∧ i = .int .i64 k ∧ ∃ ys o1, Hid (ys.map IntsV.xs = (gs.take k).map (fun g => g.gr.row)) ∧ J ys o1 wr ∧ Hid (Kept (fun b => ¬ o b) Wg wr) ∧ Hid (∀ b, o1 b → o b ∨ (Wg.heap.size ≤ b ∧ b < wr.heap.size)))
    (fun i _ => gs.length - (intOf i).toNat)
  case atStart => exact ⟨0, Nat.zero_le _, rfl, [], o, rfl, h0', Kept.refl _ _, fun b h => .inl h⟩
  case round =>
    obtain ⟨k, hk, rfl, ys, o1, hys, hJs, hkw, ho1⟩ := hrel
    by_cases hlt : k < gs.length
    · have hGw := HGR.out.keep hkw.out (fun b hb => by
        intro h
        have h1 := (HO.out b h).2
        rcases grpsOwn_low HGR.out hb with h2 | h2 <;> omega)
      obtain ⟨gr, gcap, hv, hci⟩ := ptr_cell hGw hlt
      have hA := hGw.at' _ (List.getElem_mem hlt)
      have hke := HKEY.out gs[k].gr (by rw [← HGS.out]; exact List.mem_map_of_mem (List.getElem_mem hlt))
      have hkll : gs[k].k.xs.length ≤ 4 := by have h1 := hke.1; have h2 := HKL.out; have h3 : gs[k].gr.key = gs[k].k.xs := rfl; rw [h3] at h1; omega
      have hcn : gs[k].cnt ≤ 1000000 := by have h1 := hke.2; have h2 := HLEN.out; have h3 : gs[k].gr.cnt = gs[k].cnt := rfl; rw [h3] at h1; omega
      have hsl4 := HSL.out
      have hrow := groupRow_any gs[k].gb gs[k].sb gs[k].k gs[k].cnt gs[k].ss wr (by rw [hA.len]; exact hA.cells) hA.sums hA.key.1 hA.key.2.2 hkll (by rw [hA.len]; exact hsl4) hcn
      have hrl : (gs[k].k.xs ++ [(gs[k].cnt : Int)] ++ gs[k].ss).length ≤ 1000 := by have := hA.len; simp; omega
      have HRL : Hid _ := hrl
      have hsn : (gs.take k).map (fun g => g.gr.row) ++ [gs[k].gr.row] = (gs.take (k + 1)).map (fun g => g.gr.row) := by rw [List.take_succ_eq_append_getElem hlt, List.map_append]; rfl
      have HSN : Hid _ := hsn
      have HROW : Hid (gs[k].gr.row = gs[k].k.xs ++ [(gs[k].cnt : Int)] ++ gs[k].ss) := rfl
      obtain ⟨rfl, rfl⟩ : vad = some ⟨gr, 0, none⟩ ∧ vcap = gcap := by injection hv with h1 _ h2; exact ⟨h1, h2⟩
      clear hGw hA hke hkll hcn hrl hsn hsl4 hv
      gi_wp2
      refine ⟨trivial, rfl, callsIn_wide.2 (hrow.mono ?_)⟩
      rintro e w3 ⟨v3, rfl, hown, hb3⟩
      clear hrow
      obtain ⟨iv, rfl, hivx, hivat, hivb⟩ := ownEl_of_own hown (by have := HRL.out; omega)
      have hs3 := hb3.size
      have hk3 : ∀ s, Kept s wr w3 := fun s => Kept.of_below hb3 (fun b hb _ => hb)
      have hsg := HSG.out
      have hsw := hkw.out.size
      have hj3 := HJ.out _ _ _ _ hJs (hk3 _)
      have hno : ∀ b, o1 b → b < wr.heap.size := fun b hb => by
        rcases ho1.out b hb with h | h
        · have := (HO.out b h).2; omega
        · exact h.2
      have hp3 : (ys ++ [iv]).map (ownEl 3).key <+: (groupsN kxs sxs rows).map Gr.row := by
        have e1 : (ys ++ [iv]).map (ownEl 3).key = (gs.take (k + 1)).map (fun g => g.gr.row) := by
          rw [List.map_append, ← HSN.out]
          show ys.map IntsV.xs ++ [iv.xs] = _
          rw [hys.out, hivx, HROW.out]
        rw [e1, ← HGS.out, List.map_map]
        exact List.IsPrefix.map _ (List.take_prefix _ _)
      obtain ⟨fn, tmps, assign, body, hy, hRR⟩ := HY.out ys iv o1 w3 hj3 hp3 hivat (fun b hb => ⟨fun h => by have := hno b h; have := hivb b hb; omega, .inr (by have := hivb b hb; omega)⟩) (by omega)
      have HIV : Hid _ := hivx
      have HIB : Hid _ := hivb
      have HIN : Hid (∀ b, rowEl.blk iv = some b → b < w3.heap.size) := fun b hb => rowEl.inn hivat.1 hb
      have HK3 : Hid _ := hk3
      have HNO : Hid _ := hno
      have HJ3 : Hid _ := hj3
      clear hown hb3 hk3 hp3 hivat hivx hivb hj3 hno
      obtain ⟨iad, icap, ixs⟩ := iv
      have hy' : (Instr.yield l #[.slice iad ixs.length icap]).run Try.prog w3 = .ok (.round l fn tmps assign body) w3 := hy
      unfold IntsV.val
      simp only
      clear hy
      gi_wp2
      refine ⟨rfl, hRR.mono ?_⟩
      rintro e W4 ⟨rfl, o2, hJ4, hk4, hg4⟩
      have HJ4 : Hid _ := hJ4
      have HK4 : Hid _ := hk4
      have HG4 : Hid _ := hg4
      clear hJ4 hk4 hg4 hRR hy'
      gi_wp2
      go_roundw
      case rel =>
        have hs4 := HK4.out.size
        refine ⟨k + 1, by omega, by simp, ys ++ [⟨iad, icap, ixs⟩], o2, ?_, HJ4.out, ?_, ?_⟩
        · show _ = _
          rw [List.map_append, hys.out, ← HSN.out]
          show _ ++ [ixs] = _
          have h : ixs = _ := HIV.out
          rw [h, HROW.out]
        · refine (hkw.out.trans (HK3.out _)).trans' HK4.out (fun b hb h h' => ?_)
          rcases ho1.out b h' with h' | h'
          · exact h h'
          · omega
        · intro b hb
          rcases HG4.out b hb with h | h | ⟨h, _⟩
          · rcases ho1.out b h with h | h
            · exact .inl h
            · exact .inr ⟨h.1, by omega⟩
          · exact .inr ⟨by omega, h.2⟩
          · have h1 := HIB.out b h
            have h2 : b < w3.heap.size := HIN.out b h
            exact .inr ⟨by omega, by omega⟩
      case measure => simp [intOf]; omega
    · obtain rfl : k = gs.length := by omega
      gi_wp2
      go_end0
      refine ⟨⟨_, rfl⟩, ys, o1, ?_, hJs, (Kept.of_below HBG.out (fun b hb _ => hb)).trans' hkw.out (fun b _ h => h), fun b hb => ?_⟩
      · show ys.map IntsV.xs = _
        rw [hys.out, List.take_length, ← HGS.out, List.map_map]
        rfl
      · rcases ho1.out b hb with h | h
        · exact .inl h
        · exact .inr ⟨by have := HSG.out; omega, h.2⟩

end Go.Proofs.Ytlpbelhfpoilpaa

