import Derived.Deep.RegionHeld3
import Derived.Laws.AppendOwnNone
import Derived.Maps.AppendAt
import Derived.Test.YtlpbelhfpoilpaaGreatCCatAItDItEBase4
import Derived.Test.YtlpbelhfpoilpaaGreatCPure1MkATruATruB
import Derived.Test.YtlpbelhfpoilpaaGreatCMkBBase6Base7GBk
import Derived.Test.YtlpbelhfpoilpaaGreatCGrAGrBGrCGrD
import Derived.Test.YtlpbelhfpoilpaaGreatCGrJ
set_option linter.all false
namespace Go.Proofs.YtlpbelhfpoilpaaGreat
open Go.RowKit Go.Scout

set_option maxRecDepth 20000 in
set_option maxHeartbeats 8000000 in
theorem groupRow_any (gb sb : Nat) (k : IntsV) (cnt : Nat) (ss : List Int) (w : World)
    (hg : w.heap[gb]? = some (.cells #[k.val, .int .i64 cnt, .slice (some ⟨sb, 0, none⟩) ss.length ss.length] 138)) (hs : w.heap[sb]? = some (.cells (ss.map (Value.int .i64)).toArray 3)) (hk : k.At w) (hkn : k.ad = none → k.cap = 0) (hkl : k.xs.length ≤ 4) (hsl : ss.length ≤ 4) (hcnt : cnt ≤ 1000000) :
    Calls Tryz.prog 95 #[.pointer (some ⟨gb, 0, none⟩)] w fun e w' => ∃ v, e = .returned v ∧ w'.ownsRow w.heap.size 3 1 v (k.xs ++ [(cnt : Int)] ++ ss).length ((k.xs ++ [(cnt : Int)] ++ ss).map (Value.int .i64)) ∧ Below w.heap.size w w' := by
  have c0 : w.cell? ⟨gb, 0, none⟩ = some k.val := cells_cell hg rfl
  have c1 : w.cell? ⟨gb, 1, none⟩ = some (.int .i64 cnt) := cells_cell hg rfl
  have c2 : w.cell? ⟨gb, 2, none⟩ = some (.slice (some ⟨sb, 0, none⟩) ss.length ss.length) := cells_cell hg rfl
  have hgl : gb < w.heap.size := (Array.getElem?_eq_some_iff.1 hg).1
  obtain ⟨kad, kcap, kxs⟩ := k
  unfold IntsV.val at *
  simp only at *
  have hga : IntsAt w (some ⟨sb, 0, none⟩) ss := ⟨by omega, fun i hi => ⟨sb, 0, rfl, by rw [Nat.zero_add]; exact cells_cell hs (by simp [List.getD, hi])⟩⟩
  have HK : Hid _ := hk
  have HA : Hid _ := hga
  have HKN : Hid _ := hkn
  clear hg hs hk hga
  have hcat : Hid (Calls Tryz.prog 100 #[.slice (some ⟨w.heap.size + 1, 0, none⟩) 3 3] ((w.alloc (.cells #[.int .i64 cnt] 3)).alloc (.cells #[.slice kad kxs.length kcap, .slice (some ⟨w.heap.size, 0, none⟩) 1 1, .slice (some ⟨sb, 0, none⟩) ss.length ss.length] 23)).drew
      fun e w' => ∃ v, e = .returned v ∧ w'.ownsRow w.heap.size 3 1 v (kxs ++ [(cnt : Int)] ++ ss).length ((kxs ++ [(cnt : Int)] ++ ss).map (Value.int .i64)) ∧ Below w.heap.size w w') := by
    have hb1 := below_alloc w (.cells #[.int .i64 cnt] 3)
    have hb2 := below_alloc (w.alloc (.cells #[.int .i64 cnt] 3)) (.cells #[.slice kad kxs.length kcap, .slice (some ⟨w.heap.size, 0, none⟩) 1 1, .slice (some ⟨sb, 0, none⟩) ss.length ss.length] 23)
    have hbw : Below w.heap.size w ((w.alloc (.cells #[.int .i64 cnt] 3)).alloc (.cells #[.slice kad kxs.length kcap, .slice (some ⟨w.heap.size, 0, none⟩) 1 1, .slice (some ⟨sb, 0, none⟩) ss.length ss.length] 23)).drew := (hb1.trans (hb2.mono hb1.size)).drew
    have hc1 : (((w.alloc (.cells #[.int .i64 cnt] 3)).alloc (.cells #[.slice kad kxs.length kcap, .slice (some ⟨w.heap.size, 0, none⟩) 1 1, .slice (some ⟨sb, 0, none⟩) ss.length ss.length] 23)).drew).heap[w.heap.size]? = some (.cells #[.int .i64 cnt] 3) := (Below.heap_alloc (w.alloc (.cells #[.int .i64 cnt] 3)) _ _ (by simp)).trans (heap_alloc_new _ _)
    have hc2 : (((w.alloc (.cells #[.int .i64 cnt] 3)).alloc (.cells #[.slice kad kxs.length kcap, .slice (some ⟨w.heap.size, 0, none⟩) 1 1, .slice (some ⟨sb, 0, none⟩) ss.length ss.length] 23)).drew).heap[w.heap.size + 1]? = some (.cells #[.slice kad kxs.length kcap, .slice (some ⟨w.heap.size, 0, none⟩) 1 1, .slice (some ⟨sb, 0, none⟩) ss.length ss.length] 23) := by
      have h := heap_alloc_new (w.alloc (.cells #[.int .i64 cnt] 3)) (.cells #[.slice kad kxs.length kcap, .slice (some ⟨w.heap.size, 0, none⟩) 1 1, .slice (some ⟨sb, 0, none⟩) ss.length ss.length] 23)
      rw [World.size_alloc] at h
      exact h
    have hsz : (((w.alloc (.cells #[.int .i64 cnt] 3)).alloc (.cells #[.slice kad kxs.length kcap, .slice (some ⟨w.heap.size, 0, none⟩) 1 1, .slice (some ⟨sb, 0, none⟩) ss.length ss.length] 23)).drew).heap.size = w.heap.size + 2 := by
      show ((w.alloc (.cells #[.int .i64 cnt] 3)).alloc (.cells #[.slice kad kxs.length kcap, .slice (some ⟨w.heap.size, 0, none⟩) 1 1, .slice (some ⟨sb, 0, none⟩) ss.length ss.length] 23)).heap.size = _
      simp
    generalize ((w.alloc (.cells #[.int .i64 cnt] 3)).alloc (.cells #[.slice kad kxs.length kcap, .slice (some ⟨w.heap.size, 0, none⟩) 1 1, .slice (some ⟨sb, 0, none⟩) ss.length ss.length] 23)).drew = V at *
    have hflat : flatI [⟨kad, kcap, kxs⟩, ⟨some ⟨w.heap.size, 0, none⟩, 1, [(cnt : Int)]⟩, ⟨some ⟨sb, 0, none⟩, ss.length, ss⟩] = kxs ++ [(cnt : Int)] ++ ss := by simp [flatI]
    have h := concat_any (some ⟨w.heap.size + 1, 0, none⟩) 3 [⟨kad, kcap, kxs⟩, ⟨some ⟨w.heap.size, 0, none⟩, 1, [(cnt : Int)]⟩, ⟨some ⟨sb, 0, none⟩, ss.length, ss⟩] V ?_ (by simp) ?_ ?_
    · rw [hflat] at h
      refine h.mono ?_
      rintro e w' ⟨v, rfl, hown, hb⟩
      exact ⟨v, rfl, ⟨hown.1, by
        rcases hown.2 with h | ⟨g, cap, cur, h1, h2, h3⟩
        · exact .inl h
        · exact .inr ⟨g, cap, cur, h1, by omega, h3⟩⟩, hbw.trans (hb.mono (by omega))⟩
    · refine ⟨by simp, ⟨fun i hi => ⟨w.heap.size + 1, 0, rfl, ?_⟩, fun i hi => ?_⟩⟩
      · match i, hi with
        | 0, _ => exact cells_cell hc2 rfl
        | 1, _ => exact cells_cell hc2 rfl
        | 2, _ => exact cells_cell hc2 rfl
      · match i, hi with
        | 0, _ => exact IntsAt.below hbw HK.out
        | 1, _ => exact ⟨by simp, fun j hj => ⟨w.heap.size, 0, rfl, by
            match j, hj with
            | 0, _ => exact cells_cell hc1 rfl⟩⟩
        | 2, _ => exact IntsAt.below hbw HA.out
    · intro i hi he
      match i, hi, he with
      | 0, _, he => exact HKN.out he
      | 1, _, he => cases he
      | 2, _, he => cases he
    · rw [hflat]; simp; omega
  clear hkn
  go_enter Tryz.func95, Tryz.ntmps95
  go_wp2
  go_region_with (refine hcat.out.mono ?_; rintro e w4 ⟨v4, rfl, hown4, hb4⟩; obtain ⟨va, vn, vc, rfl⟩ := ownsRow_slice hown4)
  all_goals
    go_wp2
    go_ret
    exact ⟨_, rfl, hown4, hb4⟩

end Go.Proofs.YtlpbelhfpoilpaaGreat

namespace Go.Scout
open Go.RowKit

theorem ownEl_of_own {w : World} {base : Nat} {e : TypeId} {v : Value} {n : Nat} {xs : List Int} (h : w.ownsRow base e 1 v n (xs.map (Value.int .i64))) (hl : xs.length ≤ 1152921504606846976) :
    ∃ iv : IntsV, v = iv.val ∧ iv.xs = xs ∧ (ownEl e).At iv w ∧ ∀ b, rowEl.blk iv = some b → base ≤ b := by
  obtain ⟨iv, hv, hx, hA, hb⟩ := rowEl_of_own h hl
  have hn : xs.length = n := by have := h.1; simpa using this
  refine ⟨iv, hv, hx, ⟨hA, ?_⟩, hb⟩
  rw [← hv, hx, hn]
  refine ⟨h.1, ?_⟩
  rcases h.2 with h' | ⟨g, cap, cur, h1, h2, h3⟩
  · exact .inl h'
  · exact .inr ⟨g, cap, cur, h1, Nat.zero_le _, h3⟩

theorem stepG_bound {kc sc : List Int} {m : Nat} {a : List Gr} {row : List Int} (h : ∀ g ∈ a, g.key.length ≤ kc.length ∧ g.cnt ≤ m) : ∀ g ∈ stepG kc sc a row, g.key.length ≤ kc.length ∧ g.cnt ≤ m + 1 := by
  intro g hg
  unfold stepG at hg
  split at hg
  · obtain ⟨j, hj, rfl⟩ := List.getElem_of_mem hg
    rw [List.length_modify] at hj
    rw [List.getElem_modify]
    have h1 := h _ (List.getElem_mem hj)
    split
    · exact ⟨h1.1, by show a[j].cnt + 1 ≤ _; omega⟩
    · exact ⟨h1.1, by omega⟩
  · rcases List.mem_append.1 hg with hg | hg
    · have h1 := h g hg
      exact ⟨h1.1, by omega⟩
    · rw [List.mem_singleton] at hg
      subst hg
      exact ⟨by simp [addG, newG, pickN], by simp [addG, newG]⟩

theorem foldG_bound {kc sc : List Int} : ∀ (rows : List (List Int)) (m : Nat) (a : List Gr), (∀ g ∈ a, g.key.length ≤ kc.length ∧ g.cnt ≤ m) → ∀ g ∈ rows.foldl (stepG kc sc) a, g.key.length ≤ kc.length ∧ g.cnt ≤ m + rows.length
  | [], m, a, h => by simpa using h
  | r :: l, m, a, h => by
    rw [List.foldl_cons]
    intro g hg
    have := foldG_bound l (m + 1) _ (stepG_bound h) g hg
    rw [List.length_cons]
    omega

theorem groupsN_bound {kc sc : List Int} {rows : List (List Int)} : ∀ g ∈ groupsN kc sc rows, g.key.length ≤ kc.length ∧ g.cnt ≤ rows.length := by
  intro g hg
  unfold groupsN at hg
  have := foldG_bound rows 0 (startG kc sc) (fun g hg => by
    unfold startG at hg
    split at hg
    · rw [List.mem_singleton] at hg
      subst hg
      exact ⟨Nat.zero_le _, Nat.le_refl _⟩
    · simp at hg) g hg
  omega

theorem ptr_cell {tg ti tp : TypeId} {n base bg : Nat} {gs : List GrV} {A : World} {v : Value} (h : Grps tg ti tp n base bg gs A v) {i : Nat} (hi : i < gs.length) : ∃ g cap, v = .slice (some ⟨g, 0, none⟩) gs.length cap ∧ A.cell? ⟨g, i, none⟩ = some (.pointer (some ⟨gs[i].gb, 0, none⟩)) := by
  obtain ⟨g, cap, hv, hc⟩ := ownsRow_cell h.own hi
  refine ⟨g, cap, hv, ?_⟩
  rw [hc, List.getElem?_map, List.getElem?_eq_getElem hi]
  rfl

end Go.Scout
namespace Go.Proofs.YtlpbelhfpoilpaaGreat
open Go.RowKit Go.Scout Go.Shelf

attribute [local go_sem] Oper.semAt_some

set_option maxRecDepth 100000 in
set_option maxHeartbeats 8000000 in
theorem group_seq (bi bk bs gi : Nat) (lbi : Array Value) (kc sc : IntsV) (rows : List (List Int)) (w0 : World) (hbi : bi < w0.heap.size) (hbk : bk < w0.heap.size) (hbs : bs < w0.heap.size)
    (hci : w0.cell? ⟨bi, 0, none⟩ = some (.func (.func gi) #[] lbi)) (hck : w0.cell? ⟨bk, 0, none⟩ = some kc.val) (hcs : w0.cell? ⟨bs, 0, none⟩ = some sc.val) (hkc : kc.At w0) (hsc : sc.At w0) (hkl : kc.xs.length ≤ 4) (hsl : sc.xs.length ≤ 4)
    (hseq : Seq rowEl Tryz.prog gi lbi rows w0) (egi : ∀ args w, (callFunc gi args).run Tryz.prog w = .ok (.enter gi args) w) (hlen : rows.length ≤ 1000000) (hkin : ∀ r ∈ rows, allB kc.xs r.length = true) (hsin : ∀ r ∈ rows, allB sc.xs r.length = true) (hsm : ∀ r ∈ rows, ∀ v ∈ r, smallI v) :
    Seq (ownEl 3) Tryz.prog 93 #[.pointer (some ⟨bi, 0, none⟩), .pointer (some ⟨bk, 0, none⟩), .pointer (some ⟨bs, 0, none⟩)] ((groupsN kc.xs sc.xs rows).map Gr.row) w0 := by
  intro l J W o hW ho hJ hY h0
  have c1 := (hW.cell (p := ⟨bi, 0, none⟩) hbi).trans hci
  have c2 := (hW.cell (p := ⟨bk, 0, none⟩) hbk).trans hck
  have c3 := (hW.cell (p := ⟨bs, 0, none⟩) hbs).trans hcs
  have hgg := gatherGroups_any gi lbi kc sc rows w0 W hW hseq egi (IntsAt.below hW hkc) (IntsAt.below hW hsc) hkl hsl hlen hkin hsin hsm
  have hgl : (groupsN kc.xs sc.xs rows).length ≤ 1000001 := by
    have h := fold_len kc.xs sc.xs (rows.map fun r => (⟨none, 0, r⟩ : IntsV)) (startG kc.xs sc.xs)
    rw [List.foldl_map, List.length_map] at h
    have h3 : (startG kc.xs sc.xs).length ≤ 1 := by unfold startG; split <;> simp
    have h' : (rows.foldl (Go.Scout.stepG kc.xs sc.xs) (startG kc.xs sc.xs)).length ≤ (startG kc.xs sc.xs).length + rows.length := h
    unfold groupsN
    omega
  have HGL : Hid _ := hgl
  have HY : Hid _ := hY
  have HO : Hid _ := ho
  have HW : Hid _ := hW
  have HJ : Hid _ := hJ
  have HSL : Hid _ := hsl
  have HKL : Hid _ := hkl
  have HLEN : Hid _ := hlen
  have HKEY : Hid (∀ g ∈ groupsN kc.xs sc.xs rows, g.key.length ≤ kc.xs.length ∧ g.cnt ≤ rows.length) := fun g hg => groupsN_bound g hg
  clear hY ho hW hJ hgl hseq egi hlen hkin hsin hsm hkc hsc hci hck hcs hbi hbk hbs hkl hsl
  obtain ⟨kad, kcap, kxs⟩ := kc
  obtain ⟨sad, scap, sxs⟩ := sc
  unfold IntsV.val at *
  simp only at *
  refine (callsIn_wide (n := 0)).1 (callsIn_of_wp Tryz.func93 rfl trivial ?_ rfl)
  simp only [Tryz.ntmps93, List.size_toArray, List.length_cons, List.length_nil, Nat.reduceAdd, Nat.reduceSub, Array.replicate_succ, Array.replicate_zero, List.push_toArray, List.append_toArray, List.nil_append, List.cons_append]
  gi_wp2
  refine ⟨trivial, rfl, callsIn_wide.2 (hgg.mono ?_)⟩
  rintro e Wg ⟨v, gs, rfl, hgs, hGr, hbg⟩
  clear hgg
  obtain ⟨vad, vcap, rfl⟩ := ownsRow_len hGr.own
  have hsg := hbg.size
  have h0' := HJ.out _ _ _ _ h0 (Kept.of_below (s := fun b => o b ∨ b < W.heap.size) hbg (fun b hb _ => hb))
  have hgsl : gs.length ≤ 1000001 := by
    have := congrArg List.length hgs
    rw [List.length_map] at this
    have := HGL.out
    omega
  have HBG : Hid _ := hbg
  have HSG : Hid _ := hsg
  have HGR : Hid _ := hGr
  have HGS : Hid _ := hgs
  clear hbg hsg hGr hgs c1 c2 c3 h0
  gi_wp2
  gi_loopw [12] (fun i wr => ∃ k : Nat, k ≤ gs.length ∧ i = .int .i64 k ∧ ∃ ys o1, Hid (ys.map IntsV.xs = (gs.take k).map (fun g => g.gr.row)) ∧ J ys o1 wr ∧ Hid (Kept (fun b => ¬ o b) Wg wr) ∧ Hid (∀ b, o1 b → o b ∨ (Wg.heap.size ≤ b ∧ b < wr.heap.size)))
    (fun i _ => gs.length - (intOf i).toNat)
  case atStart => exact ⟨0, Nat.zero_le _, rfl, [], o, rfl, h0', Kept.refl _ _, fun b h => .inl h⟩
  case round =>
    obtain ⟨k, hk, rfl, ys, o1, hys, hJs, hkw, ho1⟩ := hrel
    by_cases hlt : k < gs.length
    · have hGw := HGR.out.keep hkw.out (fun b hb => by
        intro h
        have h1 := (HO.out b h).2
        rcases grpsOwn_low HGR.out hb with h2 | h2 <;> omega)
      obtain ⟨gr, gcap, hv, hci⟩ := ptr_cell hGw hlt
      have hA := hGw.at' _ (List.getElem_mem hlt)
      have hke := HKEY.out gs[k].gr (by rw [← HGS.out]; exact List.mem_map_of_mem (List.getElem_mem hlt))
      have hkll : gs[k].k.xs.length ≤ 4 := by have h1 := hke.1; have h2 := HKL.out; have h3 : gs[k].gr.key = gs[k].k.xs := rfl; rw [h3] at h1; omega
      have hcn : gs[k].cnt ≤ 1000000 := by have h1 := hke.2; have h2 := HLEN.out; have h3 : gs[k].gr.cnt = gs[k].cnt := rfl; rw [h3] at h1; omega
      have hsl4 := HSL.out
      have hrow := groupRow_any gs[k].gb gs[k].sb gs[k].k gs[k].cnt gs[k].ss wr (by rw [hA.len]; exact hA.cells) hA.sums hA.key.1 hA.key.2.2 hkll (by rw [hA.len]; exact hsl4) hcn
      have hrl : (gs[k].k.xs ++ [(gs[k].cnt : Int)] ++ gs[k].ss).length ≤ 1000 := by have := hA.len; simp; omega
      have HRL : Hid _ := hrl
      have hsn : (gs.take k).map (fun g => g.gr.row) ++ [gs[k].gr.row] = (gs.take (k + 1)).map (fun g => g.gr.row) := by rw [List.take_succ_eq_append_getElem hlt, List.map_append]; rfl
      have HSN : Hid _ := hsn
      have HROW : Hid (gs[k].gr.row = gs[k].k.xs ++ [(gs[k].cnt : Int)] ++ gs[k].ss) := rfl
      obtain ⟨rfl, rfl⟩ : vad = some ⟨gr, 0, none⟩ ∧ vcap = gcap := by injection hv with h1 _ h2; exact ⟨h1, h2⟩
      clear hGw hA hke hkll hcn hrl hsn hsl4 hv
      gi_wp2
      refine ⟨trivial, rfl, callsIn_wide.2 (hrow.mono ?_)⟩
      rintro e w3 ⟨v3, rfl, hown, hb3⟩
      clear hrow
      obtain ⟨iv, rfl, hivx, hivat, hivb⟩ := ownEl_of_own hown (by have := HRL.out; omega)
      have hs3 := hb3.size
      have hk3 : ∀ s, Kept s wr w3 := fun s => Kept.of_below hb3 (fun b hb _ => hb)
      have hsg := HSG.out
      have hsw := hkw.out.size
      have hj3 := HJ.out _ _ _ _ hJs (hk3 _)
      have hno : ∀ b, o1 b → b < wr.heap.size := fun b hb => by
        rcases ho1.out b hb with h | h
        · have := (HO.out b h).2; omega
        · exact h.2
      have hp3 : (ys ++ [iv]).map (ownEl 3).key <+: (groupsN kxs sxs rows).map Gr.row := by
        have e1 : (ys ++ [iv]).map (ownEl 3).key = (gs.take (k + 1)).map (fun g => g.gr.row) := by
          rw [List.map_append, ← HSN.out]
          show ys.map IntsV.xs ++ [iv.xs] = _
          rw [hys.out, hivx, HROW.out]
        rw [e1, ← HGS.out, List.map_map]
        exact List.IsPrefix.map _ (List.take_prefix _ _)
      obtain ⟨fn, tmps, assign, body, hy, hRR⟩ := HY.out ys iv o1 w3 hj3 hp3 hivat (fun b hb => ⟨fun h => by have := hno b h; have := hivb b hb; omega, .inr (by have := hivb b hb; omega)⟩) (by omega)
      have HIV : Hid _ := hivx
      have HIB : Hid _ := hivb
      have HIN : Hid (∀ b, rowEl.blk iv = some b → b < w3.heap.size) := fun b hb => rowEl.inn hivat.1 hb
      have HK3 : Hid _ := hk3
      have HNO : Hid _ := hno
      have HJ3 : Hid _ := hj3
      clear hown hb3 hk3 hp3 hivat hivx hivb hj3 hno
      obtain ⟨iad, icap, ixs⟩ := iv
      have hy' : (Instr.yield l #[.slice iad ixs.length icap]).run Tryz.prog w3 = .ok (.round l fn tmps assign body) w3 := hy
      unfold IntsV.val
      simp only
      clear hy
      gi_wp2
      refine ⟨rfl, hRR.mono ?_⟩
      rintro e W4 ⟨rfl, o2, hJ4, hk4, hg4⟩
      have HJ4 : Hid _ := hJ4
      have HK4 : Hid _ := hk4
      have HG4 : Hid _ := hg4
      clear hJ4 hk4 hg4 hRR hy'
      gi_wp2
      go_roundw
      case rel =>
        have hs4 := HK4.out.size
        refine ⟨k + 1, by omega, by simp, ys ++ [⟨iad, icap, ixs⟩], o2, ?_, HJ4.out, ?_, ?_⟩
        · show _ = _
          rw [List.map_append, hys.out, ← HSN.out]
          show _ ++ [ixs] = _
          have h : ixs = _ := HIV.out
          rw [h, HROW.out]
        · refine (hkw.out.trans (HK3.out _)).trans' HK4.out (fun b hb h h' => ?_)
          rcases ho1.out b h' with h' | h'
          · exact h h'
          · omega
        · intro b hb
          rcases HG4.out b hb with h | h | ⟨h, _⟩
          · rcases ho1.out b h with h | h
            · exact .inl h
            · exact .inr ⟨h.1, by omega⟩
          · exact .inr ⟨by omega, h.2⟩
          · have h1 := HIB.out b h
            have h2 : b < w3.heap.size := HIN.out b h
            exact .inr ⟨by omega, by omega⟩
      case measure => simp [intOf]; omega
    · obtain rfl : k = gs.length := by omega
      gi_wp2
      go_end0
      refine ⟨⟨_, rfl⟩, ys, o1, ?_, hJs, (Kept.of_below HBG.out (fun b hb _ => hb)).trans' hkw.out (fun b _ h => h), fun b hb => ?_⟩
      · show ys.map IntsV.xs = _
        rw [hys.out, List.take_length, ← HGS.out, List.map_map]
        rfl
      · rcases ho1.out b hb with h | h
        · exact .inl h
        · exact .inr ⟨by have := HSG.out; omega, h.2⟩

end Go.Proofs.YtlpbelhfpoilpaaGreat

namespace Go.Scout
open Go.RowKit

/-- A combination, counted like digits of a number: the sources from the last one on. -/
def combRev : List (List (List Int)) → Nat → List Int → List Int
  | [], _, row => row
  | t :: r, n, row => combRev r (n / t.length) (t.getD (n % t.length) [] ++ row)

theorem combRev_app : ∀ (r : List (List (List Int))) (n : Nat) (A B : List Int), combRev r n (A ++ B) = combRev r n A ++ B
  | [], _, _, _ => rfl
  | t :: r, n, A, B => by
    unfold combRev
    rw [← List.append_assoc, combRev_app r]

theorem joinN_at {L R : List (List Int)} : ∀ {n : Nat}, n < L.length * R.length → (joinN L R).getD n [] = L.getD (n / R.length) [] ++ R.getD (n % R.length) [] := by
  induction L with
  | nil => intro n h; simp at h
  | cons a L ih =>
    intro n h
    have hR : 0 < R.length := by
      rcases Nat.eq_zero_or_pos R.length with h0 | h0
      · rw [h0] at h; simp at h
      · exact h0
    have e : joinN (a :: L) R = R.map (fun b => a ++ b) ++ joinN L R := by unfold joinN; rw [List.flatMap_cons]
    rw [e]
    by_cases hn : n < R.length
    · rw [Nat.div_eq_of_lt hn, Nat.mod_eq_of_lt hn]
      simp only [List.getD]
      rw [List.getElem?_append_left (by simpa using hn), List.getElem?_map, List.getElem?_eq_getElem hn]
      rfl
    · have h1 : n - R.length < L.length * R.length := by
        rw [List.length_cons, Nat.succ_mul] at h
        omega
      have h2 := ih h1
      have h3 : n / R.length = (n - R.length) / R.length + 1 := by
        rw [← Nat.add_div_right _ hR, Nat.sub_add_cancel (by omega)]
      have h4 : n % R.length = (n - R.length) % R.length := by
        rw [← Nat.add_mod_right (n - R.length), Nat.sub_add_cancel (by omega)]
      rw [h3, h4, List.getD_cons_succ, ← h2]
      simp only [List.getD]
      rw [List.getElem?_append_right (by simp; omega), List.length_map]

def manyT : List (List (List Int)) → Nat
  | [] => 0
  | t :: ts => ts.foldl (fun n x => n * x.length) t.length

theorem manyT_snoc {t x : List (List Int)} {ts : List (List (List Int))} : manyT (t :: (ts ++ [x])) = manyT (t :: ts) * x.length := by simp [manyT, List.foldl_append]

theorem joinN_count' {L R : List (List Int)} : (joinN L R).length = L.length * R.length := by
  unfold joinN
  induction L with
  | nil => simp
  | cons a L ih => rw [List.flatMap_cons, List.length_append, ih, List.length_map, List.length_cons, Nat.succ_mul, Nat.add_comm]

theorem combosT_len (t : List (List Int)) : ∀ (ts : List (List (List Int))), (combosT (t :: ts)).length = manyT (t :: ts) := by
  have hg : ∀ (ts : List (List (List Int))) (u : List (List Int)), (ts.foldl joinN u).length = ts.foldl (fun n x => n * x.length) u.length := by
    intro ts
    induction ts with
    | nil => intro u; rfl
    | cons x ts ih => intro u; rw [List.foldl_cons, List.foldl_cons, ih, joinN_count']
  intro ts
  exact hg ts t

theorem comb_at (t : List (List Int)) : ∀ (k : Nat) (ts : List (List (List Int))), ts.length = k → ∀ {n : Nat}, n < manyT (t :: ts) → (combosT (t :: ts)).getD n [] = combRev (t :: ts).reverse n []
  | 0, ts, hk, n, hn => by
    obtain rfl : ts = [] := List.eq_nil_of_length_eq_zero hk
    have h1 : n < t.length := hn
    show t.getD n [] = combRev [] (n / t.length) (t.getD (n % t.length) [] ++ [])
    rw [Nat.mod_eq_of_lt h1, List.append_nil]
    rfl
  | k + 1, ts, hk, n, hn => by
    rcases List.eq_nil_or_concat ts with h | ⟨us, x, h⟩
    · rw [h] at hk; simp at hk
    · rw [List.concat_eq_append] at h
      subst h
      rw [manyT_snoc] at hn
      have hx : 0 < x.length := by
        rcases Nat.eq_zero_or_pos x.length with h0 | h0
        · rw [h0] at hn; simp at hn
        · exact h0
      have hd : n / x.length < manyT (t :: us) := (Nat.div_lt_iff_lt_mul hx).2 hn
      have ih := comb_at t k us (by rw [List.length_append] at hk; simpa using hk) hd
      rw [combosT_snoc, joinN_at (by rw [combosT_len]; exact hn), ih]
      have e : (t :: (us ++ [x])).reverse = x :: (t :: us).reverse := by simp
      rw [e]
      show _ = combRev (t :: us).reverse (n / x.length) (x.getD (n % x.length) [] ++ [])
      rw [List.append_nil, ← List.nil_append (x.getD (n % x.length) []), combRev_app]
      rfl

theorem combosN_at {src : List Int} {db : List RowsV} {n : Nat} (hn : n < (combosN src db).length) : (combosN src db).getD n [] = combRev (src.map (tabN db)).reverse n [] := by
  unfold combosN at *
  cases src with
  | nil => simp [combosT] at hn
  | cons a l =>
    rw [List.map_cons] at *
    rw [combosT_len] at hn
    exact comb_at (tabN db a) _ _ rfl hn

theorem manyT_pos {t : List (List Int)} {ts : List (List (List Int))} (h : 0 < manyT (t :: ts)) : ∀ x ∈ t :: ts, 0 < x.length := by
  have hg : ∀ (ts : List (List (List Int))) (m : Nat), 0 < ts.foldl (fun n x => n * x.length) m → 0 < m ∧ ∀ x ∈ ts, 0 < x.length := by
    intro ts
    induction ts with
    | nil => intro m h; exact ⟨h, fun x hx => by cases hx⟩
    | cons y ts ih =>
      intro m h
      obtain ⟨h1', h2⟩ := ih _ h
      have h1 : 0 < m * y.length := h1'
      have h3 : 0 < m ∧ 0 < y.length := by
        constructor
        · rcases Nat.eq_zero_or_pos m with h0 | h0
          · rw [h0] at h1; simp at h1
          · exact h0
        · rcases Nat.eq_zero_or_pos y.length with h0 | h0
          · rw [h0] at h1; simp at h1
          · exact h0
      exact ⟨h3.1, fun x hx => by
        rcases List.mem_cons.1 hx with e | e
        · rw [e]; exact h3.2
        · exact h2 x e⟩
  intro x hx
  obtain ⟨h1, h2⟩ := hg ts _ h
  rcases List.mem_cons.1 hx with e | e
  · rw [e]; exact h1
  · exact h2 x e

theorem combos_pos {src : List Int} {db : List RowsV} (h : 0 < (combosN src db).length) : ∀ t ∈ src, 0 < (tabN db t).length := by
  unfold combosN at h
  cases src with
  | nil => simp [combosT] at h
  | cons a l =>
    rw [List.map_cons, combosT_len] at h
    intro t ht
    refine manyT_pos h _ ?_
    rw [← List.map_cons]
    exact List.mem_map_of_mem ht

theorem getD_memR {α : Type} {l : List α} {d : α} {k : Nat} (hk : k < l.length) : l.getD k d ∈ l := by
  have e : l.getD k d = l[k] := by simp [List.getD, hk]
  rw [e]
  exact List.getElem_mem hk

/-- A list of one's own: nil, or where it lies. -/
theorem own_news {w : World} {base : Nat} {e : TypeId} {v : Value} {n : Nat} {xs : List Value} (h : w.ownsRow base e 1 v n xs) :
    (v = .slice none 0 0 ∧ xs = []) ∨ ∃ g cap, v = .slice (some ⟨g, 0, none⟩) n cap ∧ base ≤ g ∧ g < w.heap.size ∧ ∀ j u, xs[j]? = some u → w.cell? ((⟨g, 0, none⟩ : Addr).add j) = some u := by
  rcases h.2 with ⟨rfl, h1⟩ | ⟨g, cap, cur, rfl, hb, hh, _, _, _, ht⟩
  · exact .inl ⟨rfl, List.eq_nil_of_length_eq_zero (by have := h.1; omega)⟩
  · refine .inr ⟨g, cap, rfl, hb, (Array.getElem?_eq_some_iff.1 hh).1, fun j u hj => ?_⟩
    rw [← ht, List.getElem?_take] at hj
    split at hj
    · rw [addr_add]
      simp only [World.cell?, hh, Nat.zero_add]
      simpa using hj
    · cases hj

end Go.Scout
namespace Go.Proofs.YtlpbelhfpoilpaaGreat
open Go.RowKit Go.Scout

set_option maxRecDepth 20000 in
set_option maxHeartbeats 8000000 in
theorem combination_any (q : QueryV) (d : Option Addr) (dcap n : Nat) (db : List RowsV) (w : World) (hs : q.src.At w) (hdb : DbAt w d db) (h5 : q.src.xs.length ≤ 5) (ha : allB q.src.xs db.length = true) (hn : n < (combosN q.src.xs db).length) (hn2 : n ≤ 1000000)
    (hrow : ∀ t, ∀ r ∈ tabN db t, 1 ≤ r.length ∧ r.length ≤ 100) (hlen : ∀ t, (tabN db t).length ≤ 1000000) :
    Calls Tryz.prog 22 #[.agg q.cells, .slice d db.length dcap, .int .i64 n] w fun e w' => ∃ iv : IntsV, e = .returned iv.val ∧ iv.xs = (combosN q.src.xs db).getD n [] ∧ (ownEl 3).At iv w' ∧ (∀ b, rowEl.blk iv = some b → w.heap.size ≤ b) ∧ Below w.heap.size w w' := by
  obtain ⟨i0, hi, hz0, hz1, hz2⟩ := info_parts Tryz.infoInt
  have hl2 := hdb.1
  have HC : Hid _ := combosN_at hn
  have HP : Hid _ := combos_pos (src := q.src.xs) (db := db) (by omega)
  have hb := below_alloc w (.cells q.cells 26)
  obtain ⟨w1, hw1⟩ : ∃ w1, w.alloc (.cells q.cells 26) = w1 := ⟨_, rfl⟩
  have x0 : w1.cell? ⟨w.heap.size, 0, none⟩ = some q.src.val := by rw [← hw1]; unfold QueryV.cells; simp
  have HW1 : Hid _ := hw1
  rw [hw1] at hb
  have HD : Hid _ := hdb.below hb
  have HS : Hid (q.src.At w1) := IntsAt.below hb hs
  have HB : Hid _ := hb
  have HA : Hid _ := ha
  have HRO : Hid _ := hrow
  have HLN : Hid _ := hlen
  clear hs hdb hb hw1 ha hrow hlen hn
  obtain ⟨⟨sad, scap, src⟩, wad, wcap, wh, group, keys, sums, sel, ord⟩ := q
  unfold QueryV.cells IntsV.val at *
  simp only at *
  have hw0 : wrap64 ((src.length : Int) - 1) = (src.length : Int) - 1 := by unfold wrap64; omega
  go_enter Tryz.func22, Tryz.ntmps22
  go_wp2_with fail
  rw [HW1.out]
  go_loopw [2, 7, 8] (fun nv v iv wr => ∃ (i N : Nat) (R : List Int), iv = .int .i64 ((i : Int) - 1) ∧ nv = .int .i64 N ∧ i ≤ src.length ∧ N ≤ 1000000 ∧ R.length + 100 * i ≤ 500 ∧ Hid (combRev (src.map (tabN db)).reverse n [] = combRev ((src.take i).map (tabN db)).reverse N R) ∧ Hid (wr.ownsRow w1.heap.size 3 1 v R.length (R.map (Value.int .i64))) ∧ Below w1.heap.size w1 wr) (fun _ _ iv _ => (intOf iv + 1).toNat)
  case atStart => exact ⟨src.length, n, [], by simp [hw0], rfl, Nat.le_refl _, hn2, by simp; omega, by rw [List.take_length]; exact rfl, World.ownsRow_nil _ _ _ _, Below.refl _ _⟩
  case round =>
    obtain ⟨i, N, R, rfl, rfl, hil, hN, hRl, HR, HO, hbr⟩ := hrel
    have hs0 := cell_below hbr x0
    cases i with
    | zero =>
      have hfin : (combosN src db).getD n [] = R := by rw [HC.out, HR.out]; rfl
      obtain ⟨iv, hv, hxs, hat, hblk⟩ := ownEl_of_own HO.out (by omega)
      have HF : Hid (iv.xs = (combosN src db).getD n [] ∧ (ownEl 3).At iv wr ∧ (∀ b, rowEl.blk iv = some b → w.heap.size ≤ b)) := ⟨by rw [hfin, hxs], hat, fun b hb => Nat.le_trans HB.out.size (hblk b hb)⟩
      rw [hv]
      clear hfin hxs hat hblk hv HO HR hs0 hRl
      unfold IntsV.val
      go_wp2
      go_ret
      exact ⟨iv, rfl, HF.out.1, HF.out.2.1, HF.out.2.2, Below.step HB.out hbr⟩
    | succ i =>
      have hlt : i < src.length := by omega
      have hr := allB_at HA.out hlt
      obtain ⟨b1, o1, rfl, hc1⟩ := IntsAt.get HS.out hlt
      have hck := cell_below hbr (hc1 i hlt)
      have hj : src[i].toNat < db.length := by omega
      obtain ⟨b2, o2, rfl, hc2⟩ := CellsAt.get HD.out.2.1 hj
      have hcl := cell_below hbr (hc2 _ hj)
      have e2 : src.getD i 0 = src[i] := by simp [List.getD, hlt]
      rw [e2] at hck
      have hpos := HP.out src[i] (List.getElem_mem hlt)
      have hln := HLN.out src[i]
      have hrw := HRO.out src[i]
      have hat := HD.out.2.2 _ hj
      have htk : (src.take (i + 1)).map (tabN db) = (src.take i).map (tabN db) ++ [tabN db src[i]] := by rw [List.take_succ_eq_append_getElem hlt, List.map_append]; rfl
      have hRR : combRev ((src.take (i + 1)).map (tabN db)).reverse N R = combRev ((src.take i).map (tabN db)).reverse (N / (tabN db src[i]).length) ((tabN db src[i]).getD (N % (tabN db src[i]).length) [] ++ R) := by
        rw [htk, List.reverse_append]; rfl
      have HR2 : Hid (combRev (src.map (tabN db)).reverse n [] = combRev ((src.take i).map (tabN db)).reverse (N / (tabN db src[i]).length) ((tabN db src[i]).getD (N % (tabN db src[i]).length) [] ++ R)) := HR.out.trans hRR
      have htab : tabN db src[i] = (db.getD src[i].toNat rz).rs.map (·.xs) := rfl
      rw [htab] at hpos hln hrw HR2
      clear hc1 hc2 e2 HR htk hRR htab
      generalize db.getD src[i].toNat rz = y at *
      obtain ⟨yad, ycap, ys⟩ := y
      unfold RowsV.val at *
      simp only [List.length_map] at *
      generalize src[i] = s1 at *
      obtain ⟨cm, rfl⟩ : ∃ cm : Nat, s1 = (cm : Int) := ⟨s1.toNat, by omega⟩
      simp only [Int.toNat_natCast] at hj hcl
      have hml : N % ys.length < ys.length := Nat.mod_lt _ hpos
      obtain ⟨yb, yo, rfl, hyc⟩ := CellsAt.get hat.2.1 hml
      have hyk := cell_below hbr (hyc _ hml)
      have hra := IntsAt.below hbr (hat.2.2 _ hml)
      have hgx : (ys.map (·.xs)).getD (N % ys.length) [] = (ys.getD (N % ys.length) iz).xs := by simp [List.getD, hml]
      have hr1 := hrw _ (List.mem_map_of_mem (f := IntsV.xs) (getD_memR (d := iz) hml))
      rw [hgx] at HR2
      have hmod : (N : Int) % (ys.length : Int) = ((N % ys.length : Nat) : Int) := by simp
      have hdiv : (N : Int) / (ys.length : Int) = ((N / ys.length : Nat) : Int) := by simp
      have hdl : N / ys.length ≤ N := Nat.div_le_self _ _
      clear hyc hat hrw hgx
      generalize ys.getD (N % ys.length) iz = x at *
      generalize N % ys.length = mi at *
      generalize N / ys.length = di at *
      obtain ⟨xad, xcap, xs⟩ := x
      unfold IntsV.val at hyk
      simp only at *
      obtain ⟨xb, xo, rfl, hxc⟩ := IntsAt.get hra (show 0 < xs.length by omega)
      have hnews : ∀ j u, (xs.map (Value.int .i64))[j]? = some u → wr.cell? ((⟨xb, xo, none⟩ : Addr).add j) = some u := fun j u hj => by
        rw [List.getElem?_map] at hj
        obtain ⟨z, hz, rfl⟩ := Option.map_eq_some_iff.1 hj
        have hjl := (List.getElem?_eq_some_iff.1 hz).1
        rw [addr_add, hxc j hjl]
        simp [List.getD, hz]
      have hone : ∀ (l : List Int), ∀ u ∈ l.map (Value.int .i64), u.oneCell' = true := fun l u hu => by
        obtain ⟨z, _, rfl⟩ := List.mem_map.1 hu
        rfl
      have HNW : Hid _ := hnews
      have HON : Hid _ := hone
      have hbs := hbr.size
      have hwi : wrap64 ((i : Int) + 1 - 1 - 1) = (i : Int) - 1 := by unfold wrap64; omega
      have hii : ((i + 1 : Nat) : Int) - 1 = (i : Int) := by omega
      rw [hii]
      clear hnews hone hxc hra hii
      have HRL : Hid _ := hRl
      have HX1 : Hid _ := hr1
      have hx1 : xs.length ≤ 100 := hr1.2
      have hR5 : R.length ≤ 500 := by omega
      clear hRl hr1
      have hw2 : wrap64 ((i : Int) - 1) = (i : Int) - 1 := by unfold wrap64; omega
      rcases own_news HO.out with ⟨rfl, hnil⟩ | ⟨g, gcap, rfl, hgb, hgl, hgn⟩
      · have HNL : Hid _ := hnil
        clear hnil
        go_wp2_with (first | (at_builtin; refine wpList_append_own_at _ rfl (.tmp 27) (.tmp 34) 23 rfl w1.heap.size 3 i0 (.int .i64 0) 1 8 Tryz.underlying23 hi hz0 hz1 hz2 rfl (by decide) _ _ _ rfl (World.ownsRow_nil _ _ _ _) ⟨xb, xo, none⟩ xs.length xcap (xs.map (Value.int .i64)) rfl (by simp) HNW.out (HON.out xs) (by unfold maxLen; omega) (by omega) hbs ?_))
        intro v1 wa hown1 hgrow1 _ _
        have hba : Below w1.heap.size w1 wa := hbr.grown hgrow1 hbs (fun j hj => by simp [Value.ownBlock] at hj)
        go_wp2_with (first | (at_builtin; refine wpList_append_own_none rfl (.tmp 36) (.tmp 37) 23 rfl w1.heap.size 3 i0 1 Tryz.underlying23 hi _ _ _ rfl hown1 rfl ?_))
        have hRn : R = [] := by simpa using HNL.out
        have HO2 : Hid (wa.ownsRow w1.heap.size 3 1 v1 (xs ++ R).length ((xs ++ R).map (Value.int .i64))) := by
          show World.ownsRow _ _ _ _ _ _ _
          rw [hRn, List.append_nil]; exact hown1
        clear hown1 hgrow1 hRn HNL HO hyk hcl hck hs0 HNW
        go_wp2
        go_roundw
        case rel => exact ⟨i, di, xs ++ R, by first | rfl | rw [hw2], by first | rfl | simp, by omega, by omega, by have := HRL.out; rw [List.length_append]; omega, HR2.out, HO2.out, hba⟩
        case measure => simp [intOf]
      · have HGN : Hid _ := hgn
        clear hgn
        go_wp2_with (first | (at_builtin; refine wpList_append_own_at _ rfl (.tmp 27) (.tmp 34) 23 rfl w1.heap.size 3 i0 (.int .i64 0) 1 8 Tryz.underlying23 hi hz0 hz1 hz2 rfl (by decide) _ _ _ rfl (World.ownsRow_nil _ _ _ _) ⟨xb, xo, none⟩ xs.length xcap (xs.map (Value.int .i64)) rfl (by simp) HNW.out (HON.out xs) (by unfold maxLen; omega) (by omega) hbs ?_))
        intro v1 wa hown1 hgrow1 _ _
        have hba : Below w1.heap.size w1 wa := hbr.grown hgrow1 hbs (fun j hj => by simp [Value.ownBlock] at hj)
        have hnw2 : ∀ j u, (R.map (Value.int .i64))[j]? = some u → wa.cell? ((⟨g, 0, none⟩ : Addr).add j) = some u := fun j u hj => by
          have h1 := HGN.out j u hj
          rw [addr_add] at h1 ⊢
          exact (World.cell?_of_block (a := ⟨g, 0 + j, none⟩) (hgrow1.block g hgl (by simp [Value.ownBlock]))).trans h1
        have hbs2 := hba.size
        go_wp2_with (first | (at_builtin; refine wpList_append_own_at _ rfl (.tmp 36) (.tmp 37) 23 rfl w1.heap.size 3 i0 (.int .i64 0) 1 8 Tryz.underlying23 hi hz0 hz1 hz2 rfl (by decide) _ _ _ rfl hown1 ⟨g, 0, none⟩ R.length gcap (R.map (Value.int .i64)) rfl (by simp) hnw2 (HON.out R) (by unfold maxLen; omega) (by omega) hbs2 ?_))
        intro v2 wb hown2 hgrow2 _ _
        have hbb : Below w1.heap.size w1 wb := hba.grown hgrow2 hbs2 (fun j hj => (hown1.lt j hj).1)
        have HO2 : Hid (wb.ownsRow w1.heap.size 3 1 v2 (xs ++ R).length ((xs ++ R).map (Value.int .i64))) := by
          show World.ownsRow _ _ _ _ _ _ _
          rw [List.map_append, List.length_append]; exact hown2
        clear hown1 hgrow1 hown2 hgrow2 HO hyk hcl hck hs0 HNW HGN hnw2 hba
        go_wp2
        go_roundw
        case rel => exact ⟨i, di, xs ++ R, by first | rfl | rw [hw2], by first | rfl | simp, by omega, by omega, by have := HRL.out; rw [List.length_append]; omega, HR2.out, HO2.out, hbb⟩
        case measure => simp [intOf]

end Go.Proofs.YtlpbelhfpoilpaaGreat

namespace Go.Scout
open Go.RowKit

/-- The clauses, lent: behind 'clauses'. -/
structure CLent (w00 w0 w' : World) (G tG tC tA tS n : Nat) (gc : Value → Value → Value → Array Value) (ls : List ClauseV) (v : Value) (A : Nat → Nat) (b1 b2 : Nat) : Prop where
  bel : Below w00.heap.size w00 w'
  oth : ∀ j, j < w0.heap.size → j ≠ G → w'.heap[j]? = w0.heap[j]?
  siz : w0.heap.size < w'.heap.size
  g : GB w' G tG (gc (.slice (some ⟨w0.heap.size, 0, none⟩) n (n + 2)) (.slice (some ⟨w0.heap.size, 0, none⟩) (n + 2) (n + 2)) v)
  row : w'.rowIs w0.heap.size tC (n + 2) (fun i => if i < n then .slice (some ⟨A i, 0, none⟩) (ls.getD i lz).cs.length ((ls.getD i lz).cs.length + 2) else if i = n then .slice (some ⟨b1, 0, none⟩) 1 1 else .slice (some ⟨b2, 0, none⟩) 1 1)
  al : ∀ i, i < n → w0.heap.size < A i ∧ GB w' (A i) tS (lentConds (ls.getD i lz).cs)
  own : w'.ownsRow w0.heap.size tA 1 v n ((List.range n).map fun i => .slice (some ⟨A i, 0, none⟩) ((ls.getD i lz).cs.length + 2) ((ls.getD i lz).cs.length + 2))
  k1 : w0.heap.size < b1 ∧ GB w' b1 tS ic.toArray
  k2 : w0.heap.size < b2 ∧ GB w' b2 tS ic.toArray

theorem CState.fin {w00 w0 wr : World} {G tG tC tA tS n : Nat} {gc : Value → Value → Array Value} {gc' : Value → Value → Value → Array Value} {ls : List ClauseV} {v : Value} {A : Nat → Nat}
    (h : CState w00 w0 wr G tG tC tA tS n gc ls n v A) (hgc : ∀ x y z, (gc y z).setIfInBounds 2 x = gc' x y z) (hG : G < w0.heap.size) (hGo : w00.heap.size ≤ G) (hAC : tA ≠ tC) :
    CLent w00 w0 (((((wr.setCell ⟨w0.heap.size, n, none⟩ (.slice (some ⟨wr.heap.size, 0, none⟩) 1 1)).setCell ⟨w0.heap.size, n + 1, none⟩ (.slice (some ⟨wr.heap.size + 1, 0, none⟩) 1 1)).setCell ⟨G, 2, none⟩ (.slice (some ⟨w0.heap.size, 0, none⟩) n (n + 2))).alloc
      (.cells ic.toArray tS)).alloc (.cells ic.toArray tS)) G tG tC tA tS n gc' ls v A wr.heap.size (wr.heap.size + 1) := by
  have hs := h.siz
  have hb0 := h.bel.size
  let w1 := ((wr.setCell ⟨w0.heap.size, n, none⟩ (.slice (some ⟨wr.heap.size, 0, none⟩) 1 1)).setCell ⟨w0.heap.size, n + 1, none⟩ (.slice (some ⟨wr.heap.size + 1, 0, none⟩) 1 1)).setCell ⟨G, 2, none⟩ (.slice (some ⟨w0.heap.size, 0, none⟩) n (n + 2))
  have hw1 : w1.heap.size = wr.heap.size := by simp [w1]
  have hblk1 : ∀ j, j ≠ G → j ≠ w0.heap.size → w1.heap[j]? = wr.heap[j]? := fun j h1 h2 => by
    show (((wr.setCell ⟨w0.heap.size, n, none⟩ _).setCell ⟨w0.heap.size, n + 1, none⟩ _).setCell ⟨G, 2, none⟩ _).heap[j]? = _
    rw [heap_setCell h1, heap_setCell h2, heap_setCell h2]
  have hup : ∀ j, j < wr.heap.size → ((w1.alloc (.cells ic.toArray tS)).alloc (.cells ic.toArray tS)).heap[j]? = w1.heap[j]? := fun j hj => by
    rw [heap_alloc (by simp [hw1]; omega), heap_alloc (by omega)]
  have hblk : ∀ j, j < wr.heap.size → j ≠ G → j ≠ w0.heap.size → ((w1.alloc (.cells ic.toArray tS)).alloc (.cells ic.toArray tS)).heap[j]? = wr.heap[j]? := fun j hj h1 h2 => (hup j hj).trans (hblk1 j h1 h2)
  show CLent w00 w0 ((w1.alloc (.cells ic.toArray tS)).alloc (.cells ic.toArray tS)) G tG tC tA tS n gc' ls v A wr.heap.size (wr.heap.size + 1)
  have hbel1 : Below w00.heap.size w00 w1 := ((h.bel.setCell (p := ⟨w0.heap.size, n, none⟩) (by show w00.heap.size ≤ w0.heap.size; omega) _).setCell (p := ⟨w0.heap.size, n + 1, none⟩) (by show w00.heap.size ≤ w0.heap.size; omega) _).setCell (p := ⟨G, 2, none⟩) hGo _
  refine ⟨?_, fun j hj hne => ?_, ?_, ?_, ?_, fun i hi => ?_, ?_, ⟨by omega, ?_⟩, ⟨by omega, ?_⟩⟩
  · have b1 := hbel1.alloc hbel1.size (.cells ic.toArray tS)
    exact b1.alloc b1.size _
  · rw [hblk j (by omega) hne (by omega)]
    exact h.oth j hj hne
  · simp [hw1]; omega
  · have h1 : GB ((wr.setCell ⟨w0.heap.size, n, none⟩ (.slice (some ⟨wr.heap.size, 0, none⟩) 1 1)).setCell ⟨w0.heap.size, n + 1, none⟩ (.slice (some ⟨wr.heap.size + 1, 0, none⟩) 1 1)) G tG (gc (.slice (some ⟨w0.heap.size, 0, none⟩) (n + 2) (n + 2)) v) :=
      h.g.of (by rw [heap_setCell (by show G ≠ w0.heap.size; omega), heap_setCell (by show G ≠ w0.heap.size; omega)])
    have h2 := h1.set 2 (.slice (some ⟨w0.heap.size, 0, none⟩) n (n + 2))
    rw [hgc] at h2
    exact GB.of (w := w1) h2 (hup G (by omega))
  · have h1 := ((h.row.set n (.slice (some ⟨wr.heap.size, 0, none⟩) 1 1)).set (n + 1) (.slice (some ⟨wr.heap.size + 1, 0, none⟩) 1 1)).setOther (a := ⟨G, 2, none⟩) (by show w0.heap.size ≠ G; omega) (.slice (some ⟨w0.heap.size, 0, none⟩) n (n + 2))
    refine ((h1.alloc _).alloc _).congr fun i hi => ?_
    by_cases h3 : i < n
    · simp only [if_neg (show ¬ i = n + 1 by omega), if_neg (show ¬ i = n by omega), if_pos h3]
    · by_cases h4 : i = n
      · subst h4
        simp
      · have h5 : i = n + 1 := by omega
        subst h5
        simp
  · have hA := h.al i hi
    exact ⟨hA.1, hA.2.of (hblk _ hA.2.lt (by omega) (by omega))⟩
  · have n1 : v.ownBlock ≠ some G := fun he => by have := h.own.lt _ he; omega
    have n2 : v.ownBlock ≠ some w0.heap.size := fun he => by
      obtain ⟨c, hc, _⟩ := h.row
      rcases h.own.2 with ⟨rfl, _⟩ | ⟨g, cap, cur, rfl, _, hh, _⟩
      · simp [Value.ownBlock] at he
      · simp [Value.ownBlock] at he
        subst he
        rw [hh] at hc
        simp at hc
        exact hAC hc.2
    exact ((ownsRow_setCell_other (ownsRow_setCell_other (ownsRow_setCell_other h.own n2 _) n2 _) n1 _).alloc _).alloc _
  · show ((w1.alloc (.cells ic.toArray tS)).alloc (.cells ic.toArray tS)).heap[wr.heap.size]? = _
    rw [heap_alloc (by simp [hw1]), ← hw1, heap_alloc_new]
  · show ((w1.alloc (.cells ic.toArray tS)).alloc (.cells ic.toArray tS)).heap[wr.heap.size + 1]? = _
    have : wr.heap.size + 1 = (w1.alloc (.cells ic.toArray tS)).heap.size := by simp [hw1]
    rw [this, heap_alloc_new]

theorem CState.start {w00 w : World} {G tG tC tA tS n : Nat} {c : Array Value} {gc : Value → Value → Array Value} {ls : List ClauseV}
    (hb : Below w00.heap.size w00 w) (hGo : w00.heap.size ≤ G) (hG : GB w G tG c) (hgc : c.setIfInBounds 11 (.slice (some ⟨w.heap.size, 0, none⟩) (n + 2) (n + 2)) = gc (.slice (some ⟨w.heap.size, 0, none⟩) (n + 2) (n + 2)) (.slice none 0 0)) :
    CState w00 w ((w.setCell ⟨G, 11, none⟩ (.slice (some ⟨w.heap.size, 0, none⟩) (n + 2) (n + 2))).alloc (.cells (madeCells #[.slice none 0 0] (n + 2)) tC)) G tG tC tA tS n gc ls 0 (.slice none 0 0) (fun _ => 0) := by
  have hlt := hG.lt
  have hb1 := hb.setCell (p := ⟨G, 11, none⟩) hGo (.slice (some ⟨w.heap.size, 0, none⟩) (n + 2) (n + 2))
  refine ⟨hb1.alloc hb1.size _, fun j hj hne => ?_, by simp, ?_, ?_, fun i hi => absurd hi (by omega), World.ownsRow_nil _ _ _ _⟩
  · rw [heap_alloc (by simpa using hj), heap_setCell hne]
  · have h1 := hG.set 11 (.slice (some ⟨w.heap.size, 0, none⟩) (n + 2) (n + 2))
    rw [hgc] at h1
    exact h1.of (heap_alloc (by simpa using hlt))
  · have h1 := World.rowIs_made (w.setCell ⟨G, 11, none⟩ (.slice (some ⟨w.heap.size, 0, none⟩) (n + 2) (n + 2))) (.slice none 0 0) (n + 2) tC
    rw [World.size_setCell] at h1
    exact h1.congr fun i hi => by simp

end Go.Scout

