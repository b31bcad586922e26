import Derived.BigRegion
import Derived.Test.YtlpbelhfpoilpaaGreatCRLawBaseBase2Base3
import Derived.Test.YtlpbelhfpoilpaaGreatCPure1MkATruATruB
import Derived.Test.YtlpbelhfpoilpaaGreatCMkBBase6Base7GBk
import Derived.Test.YtlpbelhfpoilpaaGreatCRfEEvAEvB
set_option linter.all false
namespace Go.Scout
open Go.RowKit

def lenOfV : Value → Nat
  | .slice _ n _ => n
  | _ => 0

theorem alike_pick (xs ys ps : List Int) : alikeB xs ys ps = decide (pickN xs ps = pickN ys ps) := by
  unfold alikeB pickN
  rw [Bool.eq_iff_iff, List.all_eq_true, decide_eq_true_eq]
  constructor
  · intro h
    exact List.map_congr_left fun p hp => by simpa using h p hp
  · intro h p hp
    rw [decide_eq_true_eq]
    exact List.map_inj_left.1 h p hp

/-- Rows, each a block's alone, listed. -/
def RowsOwn (e : TypeId) (w : World) (ao : Option Addr) (rs : List IntsV) : Prop := RowsAt w ao rs ∧ ∀ r ∈ rs, (ownEl e).At r w
theorem RowsOwn.below {e : TypeId} {w w' : World} (hb : Below w.heap.size w w') {ao : Option Addr} {rs : List IntsV} (h : RowsOwn e w ao rs) : RowsOwn e w' ao rs :=
  ⟨h.1.below hb, fun r hr => (ownEl e).keep (h.2 r hr) hb.size (fun b hb' _ => hb.block b hb')⟩
theorem Listed.rowsOwn {tI tE : TypeId} {base : Nat} {v : Value} {ys : List IntsV} {W : World} (h : Listed tI tE base v ys W) (hl : ys.length ≤ 1000000) : ∃ ao cap, v = .slice ao ys.length cap ∧ RowsOwn tE W ao ys := by
  obtain ⟨ao, cap, hv, hr⟩ := h.rows hl
  exact ⟨ao, cap, hv, hr, h.at'⟩

/-- A list beside one that grows. -/
theorem Listed.beside {tI tE : TypeId} (hne : tI ≠ tE) {base base2 n : Nat} {v u : Value} {ys : List IntsV} {xs : List Value} {W W' : World} (h : Listed tI tE base v ys W) (hu : W.ownsRow base2 tI 1 u n xs) (hk : Kept (fun b => u.ownBlock ≠ some b) W W') (hap : ∀ b, v.ownBlock = some b → u.ownBlock ≠ some b) : Listed tI tE base v ys W' :=
  ⟨ownsRow_keep h.own hk hap, fun y hy => ownEl_other hne hu hk (h.at' y hy)⟩

theorem filter_take {α : Type} (p : α → Bool) (rs : List α) (d : α) {i : Nat} (hi : i < rs.length) : (rs.take (i + 1)).filter p = (rs.take i).filter p ++ (if p (rs.getD i d) = true then [rs.getD i d] else []) := by
  rw [← take_snoc rs d hi, List.filter_append]
  congr 1
  generalize rs.getD i d = x
  by_cases h : p x = true
  · rw [if_pos h, List.filter_cons_of_pos h]; rfl
  · rw [if_neg h, List.filter_cons_of_neg h]; rfl

theorem map_filter_xs (f : List Int → Bool) (rs : List IntsV) : (rs.filter fun r => f r.xs).map IntsV.xs = (rs.map IntsV.xs).filter f := by
  rw [List.filter_map]
  rfl

end Go.Scout
namespace Go.Proofs.YtlpbelhfpoilpaaGreat
open Go.RowKit Go.Scout

set_option maxRecDepth 20000 in
set_option maxHeartbeats 16000000 in
theorem groupedR_any (q : QueryV) (ao : Option Addr) (cap : Nat) (rs : List IntsV) (w : World) (hk : q.keys.At w) (hs : q.sums.At w) (hr : RowsOwn 3 w ao rs) (hl : rs.length ≤ 100000) (hkl : q.keys.xs.length ≤ 4) (hsl : q.sums.xs.length ≤ 4)
    (hki : ∀ r ∈ rs, allB q.keys.xs r.xs.length = true) (hsi : ∀ r ∈ rs, allB q.sums.xs r.xs.length = true) (hv : ∀ r ∈ rs, ∀ c ∈ q.sums.xs, okV (r.xs.getD c.toNat 0)) :
    Calls Tryz.prog 25 #[.agg q.cells, .slice ao rs.length cap] w fun e w' => ∃ v ys, e = .returned v ∧ ys.map IntsV.xs = refGroups q.keys.xs q.sums.xs (rs.map IntsV.xs) ∧ Listed 23 3 w.heap.size v ys w' ∧ Below w.heap.size w w' := by
  have hb := below_alloc w (.cells q.cells 26)
  obtain ⟨w1, hw1⟩ : ∃ w1, w.alloc (.cells q.cells 26) = w1 := ⟨_, rfl⟩
  have HX : Hid (w1.cell? ⟨w.heap.size, 0, none⟩ = some q.src.val ∧ w1.cell? ⟨w.heap.size, 1, none⟩ = some (.slice q.wad q.wh.length q.wcap) ∧ w1.cell? ⟨w.heap.size, 2, none⟩ = some (.bool q.group) ∧ w1.cell? ⟨w.heap.size, 3, none⟩ = some q.keys.val ∧ w1.cell? ⟨w.heap.size, 4, none⟩ = some q.sums.val ∧ w1.cell? ⟨w.heap.size, 5, none⟩ = some q.sel.val ∧ w1.cell? ⟨w.heap.size, 6, none⟩ = some q.ord.val) := by
    rw [← hw1]; unfold QueryV.cells; refine ⟨?_, ?_, ?_, ?_, ?_, ?_, ?_⟩ <;> simp
  have HW1 : Hid _ := hw1
  rw [hw1] at hb
  have HR : Hid (RowsOwn 3 w1 ao rs) := hr.below hb
  have HK : Hid (q.keys.At w1) := IntsAt.below hb hk
  have HS : Hid (q.sums.At w1) := IntsAt.below hb hs
  have HB : Hid _ := hb
  have hbs0 := hb.size
  have HTO : Hid (∀ (ao' : Option Addr) (cap' : Nat) (rs' : List IntsV) (W : World), Below w1.heap.size w1 W → RowsAt W ao' rs' → rs'.length ≤ 100000 → (∀ r ∈ rs', r ∈ rs) → (q.keys.xs = [] ∨ rs' ≠ []) →
      Calls Tryz.prog 52 #[.agg q.cells, .slice ao' rs'.length cap'] W fun e w' => ∃ iv : IntsV, e = .returned iv.val ∧ iv.xs = toldN q.keys.xs q.sums.xs (rs'.map IntsV.xs) ∧ (ownEl 3).At iv w' ∧ Below W.heap.size W w') :=
    fun ao' cap' rs' W hW hr' hl' hsub hne => told_any q ao' cap' rs' W (IntsAt.below hW HK.out) (IntsAt.below hW HS.out) hr' hl' hkl hsl (fun r hr => hki r (hsub r hr)) (fun r hr => hsi r (hsub r hr)) hne (fun r hr => hv r (hsub r hr))
  have HKI : Hid _ := hki
  clear hk hs hr hb hw1 hki hsi hv hsl
  obtain ⟨src, wad, wcap, wh, group, ⟨kad, kcap, keys⟩, ⟨sad, scap, sums⟩, sel, ord⟩ := q
  unfold QueryV.cells IntsV.val at *
  simp only at *
  by_cases hk0 : keys = []
  · have htold := HTO.out ao cap rs w1 (Below.refl _ _) HR.out.1 hl (fun r hr => hr) (.inl hk0)
    subst hk0
    obtain ⟨c0, c1, c2, c3, c4, c5, c6⟩ := HX.out
    simp only [List.length_nil] at *
    go_enter Tryz.func25, Tryz.ntmps25
    go_wp2_with fail
    rw [HW1.out]
    refine htold.mono ?_
    rintro e w2 ⟨iv, rfl, hxs, hia, hb2⟩
    have hb12 : Below w1.heap.size w1 w2 := hb2
    obtain ⟨v', w5, hr5, hL5, hk5, ⟨va, vm, vc, rfl⟩, -⟩ := push_row w2 w1.heap.size (.slice none 0 0) [] (Listed.nil _ _ _ _) (by simp) hb2.size iv hia 29
    have hb5 : Below w1.heap.size w1 w5 := hb2.trans (hk5.below hb2.size (fun b _ e => by cases e))
    have HF : Hid (([iv] : List IntsV).map IntsV.xs = refGroups [] sums (rs.map IntsV.xs) ∧ Listed 23 3 w.heap.size (.slice va vm vc) [iv] w5 ∧ Below w.heap.size w w5) := ⟨by
      unfold refGroups
      rw [if_pos rfl, List.map_singleton, hxs], hL5.lower hbs0, Below.step HB.out hb5⟩
    clear htold hxs hia hb2 hb12 hL5 hk5 hb5 c0 c1 c2 c3 c4 c5 c6
    obtain ⟨iad, icap, ixs⟩ := iv
    unfold IntsV.val at hr5
    simp only at *
    go_wp2_with (first | (at_builtin; refine wpList_append_run rfl (.tmp 19) (.tmp 21) 29 rfl (.slice none 0 0) (.slice (some ⟨w2.heap.size, 0, none⟩) 1 1) (.slice va vm vc) w5 rfl rfl hr5 ?_))
    clear hr5
    go_wp2
    go_ret
    exact ⟨_, _, rfl, HF.out⟩
  · have hkn : ((keys.length : Int) == 0) = false := by
      have h := List.length_pos_iff.2 hk0
      have : ¬ (keys.length : Int) = 0 := by omega
      simpa using this
    have HTT : Hid (refGroups keys sums (rs.map IntsV.xs) = grpsF keys sums rs.length (rs.map IntsV.xs)) := show _ = _ by
      unfold refGroups
      rw [if_neg hk0, List.length_map]
    have HK0 : Hid _ := hk0
    clear hk0
    have h30 := HX.out.2.2.2.1
    obtain ⟨rs0, hrs0⟩ : ∃ rs0, rs0 = rs := ⟨_, rfl⟩
    rw [← hrs0] at HTO HKI HTT
    have HSU : Hid (∀ r ∈ rs, r ∈ rs0) := fun r hr => by rw [hrs0]; exact hr
    have hl0 : rs0.length ≤ 100000 := by rw [hrs0]; exact hl
    have HGO : Hid (([] : List IntsV).map IntsV.xs ++ grpsF keys sums rs.length (rs.map IntsV.xs) = grpsF keys sums rs0.length (rs0.map IntsV.xs)) := show _ = _ by rw [hrs0]; rfl
    have HG1 : Hid (refGroups keys sums (rs0.map IntsV.xs) = refGroups keys sums (rs.map IntsV.xs)) := show _ = _ by rw [hrs0]
    clear hrs0
    go_enter Tryz.func25, Tryz.ntmps25
    go_wp2_with fail
    rw [HW1.out]
    go_loopw [1, 5] (fun rv v wr => ∃ (rs' : List IntsV) (ao' : Option Addr) (cap' n : Nat) (ys : List IntsV), rv = .slice ao' rs'.length cap' ∧ rs'.length ≤ n ∧ rs'.length ≤ 100000 ∧ ys.length + rs'.length ≤ 100000 ∧ Hid (∀ r ∈ rs', r ∈ rs0) ∧ Hid (RowsOwn 3 wr ao' rs') ∧ Hid (ys.map IntsV.xs ++ grpsF keys sums n (rs'.map IntsV.xs) = grpsF keys sums rs0.length (rs0.map IntsV.xs)) ∧ Hid (Listed 23 3 w1.heap.size v ys wr) ∧ Below w1.heap.size w1 wr) (fun rv _ _ => lenOfV rv)
    case atStart => exact ⟨rs, ao, cap, rs.length, [], rfl, Nat.le_refl _, hl, by simpa using hl, HSU.out, HR.out, HGO.out, Listed.nil _ _ _ _, Below.refl _ _⟩
    case round =>
      clear HR HGO HSU
      obtain ⟨rs', ao', cap', n, ys, rfl, hln, hl', hyl, HSU, HR, HGO, HL, hbr⟩ := hrel
      clear hl
      obtain ⟨oa, om, oc, rfl⟩ := ownsRow_slice HL.out.own
      by_cases hps : rs' = []
      · subst hps
        have HF : Hid (ys.map IntsV.xs = refGroups keys sums (rs.map IntsV.xs)) := show _ = _ by
          rw [← HG1.out, HTT.out, ← HGO.out]
          have e : grpsF keys sums n (([] : List IntsV).map IntsV.xs) = [] := by cases n <;> rfl
          rw [e, List.append_nil]
        simp only [List.length_nil] at *
        go_wp2
        go_ret
        exact ⟨_, ys, rfl, HF.out, HL.out.lower hbs0, Below.step HB.out hbr⟩
      · obtain ⟨z, tl, hrs⟩ := List.exists_cons_of_ne_nil hps
        have h0 : 0 < rs'.length := List.length_pos_iff.2 hps
        clear hps
        obtain ⟨m, rfl⟩ : ∃ m, n = m + 1 := ⟨n - 1, by omega⟩
        obtain ⟨b, off, rfl, hcs⟩ := CellsAt.get HR.out.1.2.1 h0
        have hz0 : rs'.getD 0 iz = z := by rw [hrs]; rfl
        have HC0 := hcs 0 h0
        rw [hz0] at HC0
        have hzm : z ∈ rs' := by rw [hrs]; simp
        have HZA : Hid (IntsV.At z wr) := by have := HR.out.1.2.2 0 h0; rw [hz0] at this; exact this
        have HZK : Hid _ := HKI.out z (HSU.out z hzm)
        obtain ⟨same, hsame⟩ : ∃ same : IntsV → Bool, same = fun r => decide (pickN r.xs keys = pickN z.xs keys) := ⟨_, rfl⟩
        have HSA : Hid (∀ r, same r = alikeB r.xs z.xs keys) := fun r => by rw [hsame, alike_pick]
        have HST : Hid (ys.map IntsV.xs ++ (toldN keys sums ((rs'.filter same).map IntsV.xs) :: grpsF keys sums m ((rs'.filter fun r => !same r).map IntsV.xs)) = grpsF keys sums rs0.length (rs0.map IntsV.xs)) := show _ = _ by
          rw [← HGO.out, hsame, map_filter_xs (fun x => decide (pickN x keys = pickN z.xs keys)), map_filter_xs (fun x => !decide (pickN x keys = pickN z.xs keys)), hrs, List.map_cons]
          rfl
        have HSZ : Hid (same z = true) := show _ = _ by rw [hsame]; simp
        have HLT : Hid ((rs'.filter fun r => !same r).length < rs'.length) := show _ < _ from List.length_filter_lt_length_iff_exists.2 ⟨z, hzm, by rw [HSZ.out]; simp⟩
        have HNE : Hid (rs'.filter same ≠ []) := fun h => by
          have := List.filter_eq_nil_iff.1 h z hzm
          exact this HSZ.out
        have HHC : Hid (∀ j, j < rs'.length → wr.cell? ⟨b, off + j, none⟩ = some (rs'.getD j iz).val) := hcs
        clear hsame hzm HGO hcs hrs hz0
        rw [Nat.add_zero] at HC0
        obtain ⟨wk, hwk⟩ : ∃ wk, wk = wr := ⟨_, rfl⟩
        have HBK : Hid _ := hbr
        have HC0' : Hid _ := HC0
        rw [← hwk] at HBK HL HR HHC HZA HC0'
        clear HC0
        go_wp2
        rw [← hwk]
        clear hwk hbr
        obtain ⟨zad, zcap, zs⟩ := z
        unfold IntsV.val IntsV.At at *
        simp only at *
        go_loopw [7, 8, 9] (fun v7 v8 iv wr => ∃ (i : Nat), i ≤ rs'.length ∧ iv = .int .i64 i ∧ Hid (Listed 23 3 wk.heap.size v7 ((rs'.take i).filter same) wr) ∧ Hid (Listed 23 3 wk.heap.size v8 ((rs'.take i).filter fun r => !same r) wr) ∧ Hid (∀ b, v7.ownBlock = some b → v8.ownBlock ≠ some b) ∧ Below wk.heap.size wk wr) (fun _ _ iv _ => rs'.length - (intOf iv).toNat)
        case atStart => exact ⟨0, Nat.zero_le _, rfl, Listed.nil _ _ _ _, Listed.nil _ _ _ _, fun b hb => (by cases hb), Below.refl _ _⟩
        case round =>
          obtain ⟨i, hib, rfl, H7, H8, HAP, hbr⟩ := hrel
          have hb1 := Below.step HBK.out hbr
          have hsz := hbr.size
          obtain ⟨a7, m7, c7, rfl⟩ := ownsRow_slice H7.out.own
          obtain ⟨a8, m8, c8, rfl⟩ := ownsRow_slice H8.out.own
          by_cases hit : i < rs'.length
          · have hci := cell_below hbr (HHC.out i hit)
            have hc0 := cell_below hbr HC0'.out
            have h3 := cell_below hb1 h30
            have hgm : rs'.getD i iz ∈ rs' := getD_memR hit
            have hxo := RowsOwn.below hbr HR.out
            have hxe := hxo.2 _ hgm
            have hxa := hxo.1.2.2 i hit
            have hf7 := filter_take same rs' iz hit
            have hf8 := filter_take (fun r => !same r) rs' iz hit
            have hl7 : ((rs'.take i).filter same).length ≤ 1000000 := by
              have h1 := List.length_filter_le same (rs'.take i)
              rw [List.length_take] at h1; omega
            have hl8 : ((rs'.take i).filter fun r => !same r).length ≤ 1000000 := by
              have h1 := List.length_filter_le (fun r => !same r) (rs'.take i)
              rw [List.length_take] at h1; omega
            have hxk := HKI.out _ (HSU.out _ hgm)
            have hsx := HSA.out (rs'.getD i iz)
            clear hgm hxo
            have hal := fun W (hW : Below wr.heap.size wr W) => alike_any (rs'.getD i iz).ad zad kad (rs'.getD i iz).cap zcap kcap (rs'.getD i iz).xs zs keys W (IntsAt.below hW hxa) (IntsAt.below hW (IntsAt.below hbr HZA.out)) (IntsAt.below hW (IntsAt.below hb1 HK.out)) hxk HZK.out
            rw [← hsx] at hal
            obtain ⟨bb, hbb⟩ : ∃ bb, bb = same (rs'.getD i iz) := ⟨_, rfl⟩
            rw [← hbb] at hal hf7
            rw [← hbb] at hf8
            clear hsx hxa hxk
            obtain ⟨xx, hxx⟩ : ∃ xx, xx = rs'.getD i iz := ⟨_, rfl⟩
            rw [← hxx] at hci hxe hf7 hf8 hal
            clear hxx hbb
            have HXE : Hid _ := hxe
            have HF7 : Hid _ := hf7
            have HF8 : Hid _ := hf8
            clear hxe hf7 hf8
            obtain ⟨xad, xcap, xs⟩ := xx
            unfold IntsV.val at *
            simp only at *
            have hwi : off + 0 = off := Nat.add_zero _
            go_wp2
            refine wp_region_below (by kernel_rfl) (by kernel_rfl) ?_
            go_big_quiet_want
            refine ⟨.slice (some ⟨b, off, none⟩) rs'.length cap', fun x hx => ?_, ?_⟩
            · go_simp
            simp only [Act.put, List.setIfInBounds_toArray, List.set_cons_succ, List.set_cons_zero]
            go_big_quiet_on
            go_big_quiet_want
            refine ⟨.int .i64 i, fun x hx => ?_, ?_⟩
            · go_simp
            simp only [Act.put, List.setIfInBounds_toArray, List.set_cons_succ, List.set_cons_zero]
            go_big_quiet_on
            go_big_quiet_want
            refine ⟨.pointer (some ⟨b, off + i, none⟩), fun x hx => ?_, ?_⟩
            · go_simp
            simp only [Act.put, List.setIfInBounds_toArray, List.set_cons_succ, List.set_cons_zero]
            go_big_quiet_on
            go_big_quiet_want
            refine ⟨.slice xad xs.length xcap, fun x hx => ?_, ?_⟩
            · have e := cell_below hx hci
              go_simp
            simp only [Act.put, List.setIfInBounds_toArray, List.set_cons_succ, List.set_cons_zero]
            go_big_quiet_on
            go_big_quiet_want
            refine ⟨.slice (some ⟨b, off, none⟩) rs'.length cap', fun x hx => ?_, ?_⟩
            · go_simp
            simp only [Act.put, List.setIfInBounds_toArray, List.set_cons_succ, List.set_cons_zero]
            go_big_quiet_on
            go_big_quiet_want
            refine ⟨.pointer (some ⟨b, off, none⟩), fun x hx => ?_, ?_⟩
            · go_simp
            simp only [Act.put, List.setIfInBounds_toArray, List.set_cons_succ, List.set_cons_zero]
            go_big_quiet_on
            go_big_quiet_want
            refine ⟨.slice zad zs.length zcap, fun x hx => ?_, ?_⟩
            · have e := cell_below hx hc0
              go_simp
            simp only [Act.put, List.setIfInBounds_toArray, List.set_cons_succ, List.set_cons_zero]
            go_big_quiet_on
            go_big_quiet_want
            refine ⟨.pointer (some ⟨w.heap.size, 3, none⟩), fun x hx => ?_, ?_⟩
            · go_simp
            simp only [Act.put, List.setIfInBounds_toArray, List.set_cons_succ, List.set_cons_zero]
            go_big_quiet_on
            go_big_quiet_want
            refine ⟨.slice kad keys.length kcap, fun x hx => ?_, ?_⟩
            · have e := cell_below hx h3
              go_simp
            simp only [Act.put, List.setIfInBounds_toArray, List.set_cons_succ, List.set_cons_zero]
            go_big_quiet_on
            go_big_quiet_want
            refine ⟨.bool bb, fun x hx => ?_, ?_⟩
            · have hC := Calls.within hx (hal x hx)
              go_simp
            simp only [Act.put, List.setIfInBounds_toArray, List.set_cons_succ, List.set_cons_zero]
            go_big_quiet_on
            go_big_quiet_want
            refine ⟨.bool bb, fun x hx => ?_, ?_⟩
            · go_simp
            simp only [Act.put, List.setIfInBounds_toArray, List.set_cons_succ, List.set_cons_zero]
            go_big_quiet_on
            refine wpQuiet_nil ?_
            intro W hW
            have hcW := cell_below hW hci
            have hbW : Below wk.heap.size wk W := Below.step hbr hW
            have H7W := H7.out.below hW
            have H8W := H8.out.below hW
            have hxW := (ownEl 3).keep HXE.out hW.size (fun b hb' _ => hW.block b hb')
            have hszW := hbW.size
            cases bb with
            | true =>
              obtain ⟨v', w5, hr5, hL5, hk5, ⟨va, vm, vc, rfl⟩, hat5⟩ := push_row W wk.heap.size (.slice a7 m7 c7) _ H7W hl7 hszW (IntsV.mk xad xcap xs) hxW 29
              have hL8 := H8W.beside Tryz.ne_types H7W.own hk5 (fun b hb e => HAP.out b e hb)
              have hap5 : ∀ b, (Value.slice va vm vc).ownBlock = some b → (Value.slice a8 m8 c8).ownBlock ≠ some b := fun b hb e => by
                rcases hat5 with h | h
                · rw [h] at hb; exact HAP.out b hb e
                · rw [h] at hb; cases hb
                  have := (ownsRow_lt H8W.own e).2
                  omega
              have hb5 : Below wk.heap.size wk w5 := hbW.trans (hk5.below hszW (fun b hb e => by have := (ownsRow_lt H7W.own e).1; omega))
              have e7 : (rs'.take i).filter same ++ [IntsV.mk xad xcap xs] = (rs'.take (i + 1)).filter same := by rw [HF7.out]; rfl
              have e8 : ((rs'.take i).filter fun r => !same r) = (rs'.take (i + 1)).filter fun r => !same r := by rw [HF8.out]; simp
              rw [e7] at hL5
              rw [e8] at hL8
              have HL5 : Hid _ := hL5
              have HL8 : Hid _ := hL8
              have HA5 : Hid _ := hap5
              have HB5 : Hid _ := hb5
              clear hL5 hL8 hap5 hb5 hat5 hk5 H7W H8W hxW e7 e8 hal hci hc0 h3 hb1 hbW hW hbr H7 H8 HAP
              unfold IntsV.val at hr5
              simp only at hr5
              go_wp2_with (first | (at_builtin; refine wpList_append_run rfl (.tmp 43) (.tmp 48) 29 rfl (.slice a7 m7 c7) (.slice (some ⟨W.heap.size, 0, none⟩) 1 1) (.slice va vm vc) w5 rfl rfl hr5 ?_))
              clear hr5 hcW
              go_wp2
              go_roundw
              case rel => exact ⟨i + 1, by omega, by go_num, HL5.out, HL8.out, HA5.out, HB5.out⟩
              case measure => simp [intOf]; omega
            | false =>
              obtain ⟨v', w5, hr5, hL5, hk5, ⟨va, vm, vc, rfl⟩, hat5⟩ := push_row W wk.heap.size (.slice a8 m8 c8) _ H8W hl8 hszW (IntsV.mk xad xcap xs) hxW 29
              have hL7 := H7W.beside Tryz.ne_types H8W.own hk5 (fun b hb e => HAP.out b hb e)
              have hap5 : ∀ b, (Value.slice a7 m7 c7).ownBlock = some b → (Value.slice va vm vc).ownBlock ≠ some b := fun b hb e => by
                rcases hat5 with h | h
                · rw [h] at e; exact HAP.out b hb e
                · rw [h] at e; cases e
                  have := (ownsRow_lt H7W.own hb).2
                  omega
              have hb5 : Below wk.heap.size wk w5 := hbW.trans (hk5.below hszW (fun b hb e => by have := (ownsRow_lt H8W.own e).1; omega))
              have e8 : ((rs'.take i).filter fun r => !same r) ++ [IntsV.mk xad xcap xs] = (rs'.take (i + 1)).filter fun r => !same r := by rw [HF8.out]; rfl
              have e7 : (rs'.take i).filter same = (rs'.take (i + 1)).filter same := by rw [HF7.out]; simp
              rw [e8] at hL5
              rw [e7] at hL7
              have HL5 : Hid _ := hL5
              have HL7 : Hid _ := hL7
              have HA5 : Hid _ := hap5
              have HB5 : Hid _ := hb5
              clear hL5 hL7 hap5 hb5 hat5 hk5 H7W H8W hxW e7 e8 hal hci hc0 h3 hb1 hbW hW hbr H7 H8 HAP
              unfold IntsV.val at hr5
              simp only at hr5
              go_wp2_with (first | (at_builtin; refine wpList_append_run rfl (.tmp 50) (.tmp 55) 29 rfl (.slice a8 m8 c8) (.slice (some ⟨W.heap.size, 0, none⟩) 1 1) (.slice va vm vc) w5 rfl rfl hr5 ?_))
              clear hr5 hcW
              go_wp2
              go_roundw
              case rel => exact ⟨i + 1, by omega, by go_num, HL7.out, HL5.out, HA5.out, HB5.out⟩
              case measure => simp [intOf]; omega
          · have hii : rs'.take i = rs' := List.take_of_length_le (by omega)
            rw [hii] at H7 H8
            have hl7 : (rs'.filter same).length ≤ 100000 := Nat.le_trans (List.length_filter_le _ _) hl'
            have hl8 : (rs'.filter fun r => !same r).length ≤ 100000 := Nat.le_trans (List.length_filter_le _ _) hl'
            obtain ⟨ao7, cap7, hv7, hr7⟩ := H7.out.rowsOwn (by omega)
            obtain ⟨ao8, cap8, hv8, hr8⟩ := H8.out.rowsOwn (by omega)
            have htold := HTO.out ao7 cap7 (rs'.filter same) wr hb1 hr7.1 hl7 (fun r hr => HSU.out r (List.mem_filter.1 hr).1) (.inr HNE.out)
            have HR8 : Hid _ := hr8
            have HLK := HL.out.below hbr
            have H8B : Hid (∀ a, a8 = some a → wk.heap.size ≤ a.block) := fun a ha => by
              rcases H8.out.own.2 with ⟨h1, _⟩ | ⟨g, c, cur, h1, h2, _⟩
              · rw [ha] at h1; cases h1
              · rw [ha] at h1; cases h1; exact h2
            have HLB : Hid (∀ b, (Value.slice oa om oc).ownBlock = some b → b < wk.heap.size) := fun b hb => (ownsRow_lt HL.out.own hb).2
            have HSU8 : Hid (∀ r ∈ rs'.filter (fun r => !same r), r ∈ rs0) := fun r hr => HSU.out r (List.mem_filter.1 hr).1
            injection hv7 with hv7a hv7b hv7c
            injection hv8 with hv8a hv8b hv8c
            subst hv7a hv7b hv7c hv8a hv8b hv8c
            have hlt := HLT.out
            generalize hos : rs'.filter same = os at *
            generalize hts : (rs'.filter fun r => !same r) = ts at *
            have HH : Hid _ := HX.out
            obtain ⟨c0, c1, c2, c3, c4, c5, c6⟩ := HX.out
            have d0 := cell_below hb1 c0
            have d1 := cell_below hb1 c1
            have d2 := cell_below hb1 c2
            have d3 := cell_below hb1 c3
            have d4 := cell_below hb1 c4
            have d5 := cell_below hb1 c5
            have d6 := cell_below hb1 c6
            clear hos hts hii hr7 hr8 H7 H8 HAP c0 c1 c2 c3 c4 c5 c6 HNE HHC HZK HZA HC0' HSA HSZ
            go_wp2_with fail
            refine htold.mono ?_
            rintro e w2 ⟨iv, rfl, hxs, hia, hb2⟩
            clear htold d0 d1 d2 d3 d4 d5 d6
            have hL2 := HLK.below hb2
            have hb12 := Below.step hb1 hb2
            obtain ⟨v', w5, hr5, hL5, hk5, ⟨va, vm, vc, rfl⟩, -⟩ := push_row w2 w1.heap.size (.slice oa om oc) ys hL2 (by omega) hb12.size iv hia 29
            have hk2 := hb12.size
            have hb5 : Below w1.heap.size w1 w5 := hb12.trans (hk5.below hk2 (fun b hb e => by have := (ownsRow_lt hL2.own e).1; omega))
            have hr85 : RowsOwn 3 w5 a8 ts := by
              have hra := RowsOwn.below hb2 HR8.out
              refine ⟨⟨hra.1.1, hra.1.2.1.keep ?_, fun j hj => ?_⟩, fun r hr => ownEl_other Tryz.ne_types hL2.own hk5 (hra.2 r hr)⟩
              · intro a ha hlt
                exact hk5.block _ hlt (fun e => by have := HLB.out _ e; have := H8B.out a ha; omega)
              · exact (ownEl_other Tryz.ne_types hL2.own hk5 (hra.2 _ (getD_memR hj))).1.1
            have HF : Hid ((ys ++ [iv]).map IntsV.xs ++ grpsF keys sums m (ts.map IntsV.xs) = grpsF keys sums rs0.length (rs0.map IntsV.xs)) := show _ = _ by
              rw [← HST.out, List.map_append, List.append_assoc, List.map_singleton, hxs]
              rfl
            have HL5 : Hid _ := hL5
            have HB5 : Hid _ := hb5
            have HR5 : Hid _ := hr85
            clear hL5 hb5 hr85 hxs hia hb2 hL2 hb12 hk5 hk2 hb1 hbr HLK
            obtain ⟨iad, icap, ixs⟩ := iv
            unfold IntsV.val at hr5
            simp only at *
            go_wp2_with (first | (at_builtin; refine wpList_append_run rfl (.tmp 60) (.tmp 62) 29 rfl (.slice oa om oc) (.slice (some ⟨w2.heap.size, 0, none⟩) 1 1) (.slice va vm vc) w5 rfl rfl hr5 ?_))
            clear hr5
            go_wp2
            go_roundw
            case rel => exact ⟨ts, a8, c8, m, ys ++ [IntsV.mk iad icap ixs], rfl, by omega, by omega, by rw [List.length_append]; simp; omega, HSU8.out, HR5.out, HF.out, HL5.out, HB5.out⟩
            case measure => simp [lenOfV]; omega

end Go.Proofs.YtlpbelhfpoilpaaGreat

namespace Go.Scout

/-- Puts a thing into a list, from its end: behind the last one that it is not ahead of. The list is told from its end. -/
def insRev {α : Type} (lt : α → α → Bool) (x : α) : List α → List α
  | [] => [x]
  | y :: r => if lt x y = true then y :: insRev lt x r else x :: y :: r

def insR {α : Type} (lt : α → α → Bool) (x : α) (l : List α) : List α := (insRev lt x l.reverse).reverse
/-- All of B put into A, one by one. -/
def mg {α : Type} (lt : α → α → Bool) (A B : List α) : List α := B.foldl (fun out x => insR lt x out) A

/-- What an order is that is asked by 'ahead of'. -/
structure Ahead {α : Type} (lt : α → α → Bool) : Prop where
  asymm : ∀ {x y}, lt x y = true → lt y x = false
  trans : ∀ {x y z}, lt x y = true → lt y z = true → lt x z = true
  ntrans : ∀ {x y z}, lt y x = false → lt z y = false → lt z x = false

/-- No thing stands behind one that it is ahead of. -/
def InRow {α : Type} (lt : α → α → Bool) (l : List α) : Prop := l.Pairwise fun a b => lt b a = false

section
variable {α : Type} {lt : α → α → Bool}

theorem insR_nil (x : α) : insR lt x [] = [x] := rfl
theorem insR_snoc (x y : α) (l : List α) : insR lt x (l ++ [y]) = if lt x y = true then insR lt x l ++ [y] else l ++ [y, x] := by
  unfold insR
  rw [List.reverse_append]
  show (if lt x y = true then y :: insRev lt x l.reverse else x :: y :: l.reverse).reverse = _
  split <;> simp

theorem insRev_left (b : α) : ∀ (r s : List α), (∀ a ∈ r, lt b a = true) → insRev lt b (r ++ s) = r ++ insRev lt b s
  | [], _, _ => rfl
  | a :: r, s, h => by
    show (if lt b a = true then a :: insRev lt b (r ++ s) else b :: a :: (r ++ s)) = _
    rw [if_pos (h a (by simp)), insRev_left b r s (fun x hx => h x (by simp [hx]))]
    rfl

theorem insRev_stop (b : α) : ∀ (s : List α), (∀ a ∈ s, lt b a = false) → insRev lt b s = b :: s
  | [], _ => rfl
  | a :: s, h => by
    show (if lt b a = true then a :: insRev lt b s else b :: a :: s) = _
    rw [if_neg (by rw [h a (by simp)]; simp)]

theorem insRev_right (b : α) (s : List α) (h : ∀ a ∈ s, lt b a = false) : ∀ (r : List α), insRev lt b (r ++ s) = insRev lt b r ++ s
  | [] => insRev_stop b s h
  | a :: r => by
    show (if lt b a = true then a :: insRev lt b (r ++ s) else b :: a :: (r ++ s)) = (if lt b a = true then a :: insRev lt b r else b :: a :: r) ++ s
    rw [insRev_right b s h r]
    split <;> rfl

theorem insR_left {b : α} {A1 A2 : List α} (h : ∀ a ∈ A2, lt b a = true) : insR lt b (A1 ++ A2) = insR lt b A1 ++ A2 := by
  unfold insR
  rw [List.reverse_append, insRev_left b _ _ (fun a ha => h a (by simpa using ha))]
  simp

theorem insR_right {b : α} {A1 A2 : List α} (h : ∀ a ∈ A1, lt b a = false) : insR lt b (A1 ++ A2) = A1 ++ insR lt b A2 := by
  unfold insR
  rw [List.reverse_append, insRev_right b _ (fun a ha => h a (by simpa using ha))]
  simp

theorem insR_stop {b : α} {A : List α} (h : ∀ a ∈ A, lt b a = false) : insR lt b A = A ++ [b] := by
  have := insR_right (lt := lt) (b := b) (A1 := A) (A2 := []) h
  rwa [List.append_nil] at this

theorem insR_perm (b : α) (A : List α) : (insR lt b A).Perm (A ++ [b]) := by
  unfold insR
  refine (List.reverse_perm _).trans ?_
  have : ∀ r : List α, (insRev lt b r).Perm (b :: r) := by
    intro r
    induction r with
    | nil => exact List.Perm.refl _
    | cons a r ih =>
      show (if lt b a = true then a :: insRev lt b r else b :: a :: r).Perm _
      split
      · exact (List.Perm.cons a ih).trans (List.Perm.swap b a r)
      · exact List.Perm.refl _
  refine (this _).trans ?_
  refine (List.Perm.cons b (List.reverse_perm A)).trans ?_
  exact (List.perm_append_comm (l₁ := [b]) (l₂ := A))

theorem insR_mem {b x : α} {A : List α} : x ∈ insR lt b A ↔ x ∈ A ∨ x = b := by
  rw [(insR_perm (lt := lt) b A).mem_iff]
  simp

theorem mg_nil (A : List α) : mg lt A [] = A := rfl
theorem mg_app (A B C : List α) : mg lt A (B ++ C) = mg lt (mg lt A B) C := by unfold mg; rw [List.foldl_append]
theorem mg_one (A : List α) (b : α) : mg lt A [b] = insR lt b A := rfl
theorem mg_cons (A B : List α) (b : α) : mg lt A (b :: B) = mg lt (insR lt b A) B := rfl

theorem mg_perm : ∀ (B A : List α), (mg lt A B).Perm (A ++ B)
  | [], A => by rw [mg_nil, List.append_nil]
  | b :: B, A => by
    rw [mg_cons]
    refine (mg_perm B _).trans ?_
    refine (List.Perm.append_right B (insR_perm b A)).trans ?_
    rw [List.append_assoc]
    exact List.Perm.refl _

theorem mg_mem {x : α} {A B : List α} : x ∈ mg lt A B ↔ x ∈ A ∨ x ∈ B := by
  rw [(mg_perm (lt := lt) B A).mem_iff, List.mem_append]

theorem mg_length (A B : List α) : (mg lt A B).length = A.length + B.length := by
  rw [(mg_perm (lt := lt) B A).length_eq, List.length_append]

theorem mg_left : ∀ (B A1 A2 : List α), (∀ b ∈ B, ∀ a ∈ A2, lt b a = true) → mg lt (A1 ++ A2) B = mg lt A1 B ++ A2
  | [], _, _, _ => rfl
  | b :: B, A1, A2, h => by
    rw [mg_cons, mg_cons, insR_left (h b (by simp)), mg_left B _ _ (fun x hx => h x (by simp [hx]))]

theorem mg_right : ∀ (B A1 A2 : List α), (∀ b ∈ B, ∀ a ∈ A1, lt b a = false) → mg lt (A1 ++ A2) B = A1 ++ mg lt A2 B
  | [], _, _, _ => rfl
  | b :: B, A1, A2, h => by
    rw [mg_cons, mg_cons, insR_right (h b (by simp)), mg_right B _ _ (fun x hx => h x (by simp [hx]))]

/-- Two parts that are apart are put together apart. -/
theorem mg_split {A1 A2 B1 B2 : List α} (h1 : ∀ b ∈ B1, ∀ a ∈ A2, lt b a = true) (h2 : ∀ b ∈ B2, ∀ a ∈ A1, lt b a = false) (h3 : ∀ b ∈ B2, ∀ a ∈ B1, lt b a = false) :
    mg lt (A1 ++ A2) (B1 ++ B2) = mg lt A1 B1 ++ mg lt A2 B2 := by
  rw [mg_app, mg_left B1 A1 A2 h1, mg_right]
  intro b hb a ha
  rcases mg_mem.1 ha with h | h
  · exact h2 b hb a h
  · exact h3 b hb a h

theorem mg_row : ∀ {B : List α}, InRow lt B → ∀ {A : List α}, (∀ b ∈ B, ∀ a ∈ A, lt b a = false) → mg lt A B = A ++ B
  | [], _, A, _ => by rw [mg_nil, List.append_nil]
  | b :: B, h, A, hA => by
    unfold InRow at h
    rw [List.pairwise_cons] at h
    rw [mg_cons, insR_stop (hA b (by simp)), mg_row h.2, List.append_assoc]
    · rfl
    · intro x hx a ha
      rcases List.mem_append.1 ha with ha | ha
      · exact hA x (by simp [hx]) a ha
      · rw [List.mem_singleton] at ha
        subst ha
        exact h.1 x hx

theorem insRev_comm (O : Ahead lt) {x y : α} (h : lt x y = true) : ∀ r : List α, insRev lt x (insRev lt y r) = insRev lt y (insRev lt x r)
  | [] => by
    show (if lt x y = true then y :: insRev lt x [] else x :: y :: []) = (if lt y x = true then x :: insRev lt y [] else y :: x :: [])
    rw [if_pos h, if_neg (by rw [O.asymm h]; simp)]
    rfl
  | z :: r => by
    by_cases hy : lt y z = true
    · have hx := O.trans h hy
      have e1 : insRev lt y (z :: r) = z :: insRev lt y r := if_pos hy
      have e2 : insRev lt x (z :: r) = z :: insRev lt x r := if_pos hx
      rw [e1, e2]
      show (if lt x z = true then z :: insRev lt x (insRev lt y r) else _) = (if lt y z = true then z :: insRev lt y (insRev lt x r) else _)
      rw [if_pos hx, if_pos hy, insRev_comm O h r]
    · have e1 : insRev lt y (z :: r) = y :: z :: r := if_neg hy
      have e2 : insRev lt x (y :: z :: r) = y :: insRev lt x (z :: r) := if_pos h
      rw [e1, e2]
      by_cases hx : lt x z = true
      · have e3 : insRev lt x (z :: r) = z :: insRev lt x r := if_pos hx
        rw [e3]
        exact (if_neg hy).symm
      · have e3 : insRev lt x (z :: r) = x :: z :: r := if_neg hx
        rw [e3]
        exact (if_neg (by rw [O.asymm h]; simp)).symm

theorem insR_comm (O : Ahead lt) {x y : α} (h : lt x y = true) (l : List α) : insR lt x (insR lt y l) = insR lt y (insR lt x l) := by
  unfold insR
  rw [List.reverse_reverse, List.reverse_reverse, insRev_comm O h]

theorem foldr_ins (O : Ahead lt) (L : List α) (b : α) : ∀ r : List α, (insRev lt b r).foldr (insR lt) L = insR lt b (r.foldr (insR lt) L)
  | [] => rfl
  | s :: r => by
    show (if lt b s = true then s :: insRev lt b r else b :: s :: r).foldr (insR lt) L = _
    split
    · rename_i h
      rw [List.foldr_cons, foldr_ins O L b r, List.foldr_cons, insR_comm O h]
    · rfl

/-- It is the same to put a list into another, or that list sorted. -/
theorem mg_sorted (O : Ahead lt) (L : List α) (B : List α) : mg lt L (mg lt [] B) = mg lt L B := by
  have key : ∀ r : List α, (r.foldr (insRev lt) []).foldr (insR lt) L = r.foldr (insR lt) L := by
    intro r
    induction r with
    | nil => rfl
    | cons b r ih => rw [List.foldr_cons, foldr_ins O, ih, List.foldr_cons]
  have e1 : ∀ X : List α, mg lt L X = X.reverse.foldr (insR lt) L := fun X => by
    unfold mg
    rw [List.foldr_reverse]
  have e2 : ∀ r : List α, (mg lt [] r.reverse).reverse = r.foldr (insRev lt) [] := by
    intro r
    induction r with
    | nil => rfl
    | cons b r ih =>
      rw [List.reverse_cons, mg_app, mg_one, List.foldr_cons, ← ih]
      unfold insR
      rw [List.reverse_reverse]
  have e3 := e2 B.reverse
  rw [List.reverse_reverse] at e3
  rw [e1 (mg lt [] B), e3, key, e1 B]

theorem insR_row (O : Ahead lt) {x : α} {A : List α} (h : InRow lt A) : InRow lt (insR lt x A) := by
  unfold insR
  have h' : A.reverse.Pairwise (fun a b => lt a b = false) := by rw [List.pairwise_reverse]; exact h
  unfold InRow
  rw [List.pairwise_reverse]
  generalize A.reverse = r at h'
  induction r with
  | nil => exact List.pairwise_singleton _ _
  | cons a r ih =>
    rw [List.pairwise_cons] at h'
    show (if lt x a = true then a :: insRev lt x r else x :: a :: r).Pairwise _
    split
    · rename_i hx
      rw [List.pairwise_cons]
      refine ⟨fun y hy => ?_, ih h'.2⟩
      have hm : y ∈ (insRev lt x r).reverse := by simpa using hy
      have hm' : y ∈ insR lt x r.reverse := by unfold insR; rwa [List.reverse_reverse]
      rcases insR_mem.1 hm' with h | h
      · exact h'.1 y (by simpa using h)
      · rw [h]; exact O.asymm hx
    · rename_i hx
      have hx' : lt x a = false := by simpa using hx
      rw [List.pairwise_cons]
      refine ⟨fun y hy => ?_, by rw [List.pairwise_cons]; exact h'⟩
      rcases List.mem_cons.1 hy with h | h
      · rw [h]; exact hx'
      · exact O.ntrans (h'.1 y h) hx'

theorem mg_inrow (O : Ahead lt) : ∀ (B : List α) {A : List α}, InRow lt A → InRow lt (mg lt A B)
  | [], _, h => h
  | b :: B, _, h => mg_inrow O B (insR_row O h)

end

end Go.Scout

namespace Go.Scout
open Go.RowKit

theorem set_mid (A B : List Value) (x y : Value) : (A ++ x :: B).toArray.setIfInBounds A.length y = (A ++ y :: B).toArray := by
  rw [List.setIfInBounds_toArray, List.set_append_right _ _ (Nat.le_refl _), Nat.sub_self, List.set_cons_zero]

theorem at_mid (A B : List Value) (x : Value) : (A ++ x :: B).toArray[A.length]? = some x := by
  rw [List.getElem?_toArray, List.getElem?_append_right (Nat.le_refl _), Nat.sub_self]
  rfl

/-- Two cells of a block, read and changed for one another. -/
structure Swap (w : World) (blk : Nat) (t : TypeId) (i1 i2 : Nat) (x y : Value) (L : List Value) : Prop where
  c1 : w.cell? ⟨blk, i1, none⟩ = some x
  c2 : w.cell? ⟨blk, i2, none⟩ = some y
  z1 : w.frozen? ⟨blk, i1, none⟩ = false
  z2 : w.frozen? ⟨blk, i2, none⟩ = false
  ne : i1 ≠ i2
  up : GB (((w.setCell ⟨blk, i1, none⟩ y).setCell ⟨blk, i2, none⟩ x).drew) blk t L.toArray ∧ Kept (fun b => b ≠ blk) w (((w.setCell ⟨blk, i1, none⟩ y).setCell ⟨blk, i2, none⟩ x).drew)
  down : GB (((w.setCell ⟨blk, i2, none⟩ x).setCell ⟨blk, i1, none⟩ y).drew) blk t L.toArray ∧ Kept (fun b => b ≠ blk) w (((w.setCell ⟨blk, i2, none⟩ x).setCell ⟨blk, i1, none⟩ y).drew)

theorem Kept.drew1 {s : Nat → Prop} (w : World) : Kept s w w.drew := Kept.of_below ((Below.refl w.heap.size w).drew) (fun b hb _ => hb)
theorem GB.drew1 {w : World} {blk : Nat} {t : TypeId} {c : Array Value} (h : GB w blk t c) : GB w.drew blk t c := h.keep (Kept.drew1 (s := fun _ => True) w) trivial
theorem GB.drewN {w : World} {blk : Nat} {t : TypeId} {c : Array Value} (h : GB w blk t c) (n : Nat) : GB (w.drewN n) blk t c := h.keep (Kept.drewN (s := fun _ => True) w n) trivial

theorem GB.swap {w : World} {blk : Nat} {t : TypeId} {A B C : List Value} {x y : Value} (h : GB w blk t (A ++ x :: B ++ y :: C).toArray) {i1 i2 : Nat} (h1 : i1 = A.length) (h2 : i2 = A.length + 1 + B.length) : Swap w blk t i1 i2 x y (A ++ y :: B ++ x :: C) := by
  have hl : i2 = (A ++ x :: B).length := by rw [h2]; simp; omega
  have hl' : i2 = (A ++ y :: B).length := by rw [h2]; simp; omega
  have e1 : (A ++ x :: B ++ y :: C).toArray[i1]? = some x := by
    rw [h1, List.append_assoc]; exact at_mid A _ x
  have e2 : (A ++ x :: B ++ y :: C).toArray[i2]? = some y := by
    rw [hl]; exact at_mid _ _ y
  have s1 : (A ++ x :: B ++ y :: C).toArray.setIfInBounds i1 y = (A ++ y :: B ++ y :: C).toArray := by
    rw [h1, List.append_assoc, List.cons_append, set_mid, List.append_assoc, List.cons_append]
  have s2 : (A ++ y :: B ++ y :: C).toArray.setIfInBounds i2 x = (A ++ y :: B ++ x :: C).toArray := by
    rw [hl']; exact set_mid _ _ _ _
  have s3 : (A ++ x :: B ++ y :: C).toArray.setIfInBounds i2 x = (A ++ x :: B ++ x :: C).toArray := by
    rw [hl]; exact set_mid _ _ _ _
  have s4 : (A ++ x :: B ++ x :: C).toArray.setIfInBounds i1 y = (A ++ y :: B ++ x :: C).toArray := by
    rw [h1, List.append_assoc, List.cons_append, set_mid, List.append_assoc, List.cons_append]
  refine ⟨(h.cell i1).trans e1, (h.cell i2).trans e2, h.frozen i1, h.frozen i2, by omega, ⟨?_, ?_⟩, ⟨?_, ?_⟩⟩
  · have := (h.set i1 y).set i2 x
    rw [s1, s2] at this
    exact this.drew1
  · exact ((Kept.setCell _ _ _ (fun h => h rfl)).trans (Kept.setCell _ _ _ (fun h => h rfl))).trans (Kept.drew1 _)
  · have := (h.set i2 x).set i1 y
    rw [s3, s4] at this
    exact this.drew1
  · exact ((Kept.setCell _ _ _ (fun h => h rfl)).trans (Kept.setCell _ _ _ (fun h => h rfl))).trans (Kept.drew1 _)

theorem wrap_add {a k len : Nat} (h : a + k < len) (hl : len ≤ 1000000) : wrap64 ((a : Int) + (k : Int)) = ((a + k : Nat) : Int) := by unfold wrap64; omega
theorem wrap_sub {a k : Nat} (h : k ≤ a) (hl : a ≤ 4000000) : wrap64 ((a : Int) - (k : Int)) = ((a - k : Nat) : Int) := by unfold wrap64; omega
theorem sw_i2 {b p x m k x1 y1 x3 : Nat} (hb : b = p + x + m) (l1 : x1 = k) (l2 : y1 = k) (hx : x = x1 + (x3 + 1)) : b + k = p + y1 + 1 + (x3 + m + x1) := by omega
theorem sw_i1 {a b p x m k len : Nat} (ha : a = p) (hb : b = p + x + m) (h : b + k < len) : a + k < len := by omega

/-- A list of rows, and what is behind it. -/
def SL (L : List IntsV) (R : List Value) : Array Value := (L.map IntsV.val ++ R).toArray

theorem GB.swapS {w : World} {blk : Nat} {t : TypeId} {R : List Value} {L A B C : List IntsV} {x y : IntsV} (h : GB w blk t (SL L R)) (e : L = A ++ x :: B ++ y :: C) {i1 i2 : Nat} (h1 : i1 = A.length) (h2 : i2 = A.length + 1 + B.length) :
    Swap w blk t i1 i2 x.val y.val ((A ++ y :: B ++ x :: C).map IntsV.val ++ R) := by
  have e1 : SL L R = (A.map IntsV.val ++ x.val :: B.map IntsV.val ++ y.val :: (C.map IntsV.val ++ R)).toArray := by
    rw [e]; unfold SL; simp
  have e2 : (A ++ y :: B ++ x :: C).map IntsV.val ++ R = A.map IntsV.val ++ y.val :: B.map IntsV.val ++ x.val :: (C.map IntsV.val ++ R) := by simp
  rw [e1] at h
  rw [e2]
  exact h.swap (by simpa using h1) (by simpa using h2)

end Go.Scout
namespace Go.Proofs.YtlpbelhfpoilpaaGreat
open Go.RowKit Go.Scout

set_option maxRecDepth 20000 in
set_option maxHeartbeats 4000000 in
theorem swapRange_any (blk cap len a b n : Nat) (f : Value) (P X M Y Q : List IntsV) (R : List Value) (w : World) (hG : GB w blk 23 (SL (P ++ X ++ M ++ Y ++ Q) R)) (hX : X.length = n) (hY : Y.length = n) (ha : a = P.length) (hb : b = P.length + X.length + M.length) (hlen : b + n ≤ len) (hl : len ≤ 1000000) :
    Calls Tryz.prog 115 #[.slice (some ⟨blk, 0, none⟩) len cap, .int .i64 a, .int .i64 b, .int .i64 n, f] w fun e w' => e = .returned (.tuple #[]) ∧ GB w' blk 23 (SL (P ++ Y ++ M ++ X ++ Q) R) ∧ Kept (fun b => b ≠ blk) w w' := by
  have HG : Hid _ := hG
  clear hG
  go_enter Tryz.func115, Tryz.ntmps115
  go_wp2
  go_loopw [10] (fun i wr => ∃ (k : Nat) (X1 X2 Y1 Y2 : List IntsV), k ≤ n ∧ i = .int .i64 k ∧ Hid (X = X1 ++ X2 ∧ Y = Y1 ++ Y2 ∧ X1.length = k ∧ Y1.length = k ∧ GB wr blk 23 (SL (P ++ Y1 ++ X2 ++ M ++ X1 ++ Y2 ++ Q) R) ∧ Kept (fun b => b ≠ blk) w wr)) (fun i _ => n - (intOf i).toNat)
  case atStart => exact ⟨0, [], X, [], Y, Nat.zero_le _, rfl, rfl, rfl, rfl, rfl, by rw [List.append_nil, List.append_nil]; exact HG.out, Kept.refl _ _⟩
  case round =>
    obtain ⟨k, X1, X2, Y1, Y2, hk, rfl, HI⟩ := hrel
    obtain ⟨eX, eY, l1, l2, hg, hK⟩ := HI.out
    by_cases hlt : k < n
    · obtain ⟨x, X3, rfl⟩ : ∃ x X3, X2 = x :: X3 := by
        cases X2 with
        | nil => rw [eX, List.append_nil] at hX; omega
        | cons x X3 => exact ⟨x, X3, rfl⟩
      obtain ⟨y, Y3, rfl⟩ : ∃ y Y3, Y2 = y :: Y3 := by
        cases Y2 with
        | nil => rw [eY, List.append_nil] at hY; omega
        | cons y Y3 => exact ⟨y, Y3, rfl⟩
      have e : P ++ Y1 ++ x :: X3 ++ M ++ X1 ++ y :: Y3 ++ Q = (P ++ Y1) ++ x :: (X3 ++ M ++ X1) ++ y :: (Y3 ++ Q) := by simp
      have hXl : X.length = X1.length + (X3.length + 1) := by rw [eX]; simp
      have hs := hg.swapS e (i1 := a + k) (i2 := b + k) (by rw [List.length_append]; omega) (by simp only [List.length_append]; exact sw_i2 hb l1 l2 hXl)
      have hnb : n ≤ 1000000 := Nat.le_trans (Nat.le_trans (Nat.le_add_left n b) hlen) hl
      have hi2 : b + k < len := Nat.lt_of_lt_of_le (Nat.add_lt_add_left hlt b) hlen
      have hi1 : a + k < len := sw_i1 ha hb hi2
      have hw1 : wrap64 ((a : Int) + (k : Int)) = ((a + k : Nat) : Int) := wrap_add hi1 hl
      have hw2 : wrap64 ((b : Int) + (k : Int)) = ((b + k : Nat) : Int) := wrap_add hi2 hl
      have c1 := hs.c1
      have c2 := hs.c2
      have z1 := hs.z1
      have z2 := hs.z2
      have hne := hs.ne
      have HS : Hid _ := hs
      have HE : Hid _ := And.intro eX eY
      have HK : Hid _ := hK
      have HL : Hid _ := And.intro l1 l2
      clear hs hg HI eX eY e hK hX hY ha hb hXl hlen l1 l2
      generalize a + k = i1 at *
      generalize b + k = i2 at *
      obtain ⟨xad, xcap, xxs⟩ := x
      obtain ⟨yad, ycap, yxs⟩ := y
      unfold IntsV.val at c1 c2
      simp only at c1 c2
      go_wp2
      go_region
      have hu := HS.out.up
      unfold IntsV.val at hu
      simp only at hu
      generalize ((wr.setCell { block := blk, off := i1 } (Value.slice yad yxs.length ycap)).setCell { block := blk, off := i2 } (Value.slice xad xxs.length xcap)).drew = wf at *
      have HU : Hid _ := hu
      clear hu HS
      go_wp2
      go_roundw
      case rel =>
        refine ⟨k + 1, X1 ++ [⟨xad, xcap, xxs⟩], X3, Y1 ++ [⟨yad, ycap, yxs⟩], Y3, hlt, by go_num, by rw [HE.out.1, List.append_assoc]; rfl, by rw [HE.out.2, List.append_assoc]; rfl, by rw [List.length_append, HL.out.1]; rfl, by rw [List.length_append, HL.out.2]; rfl, ?_, HK.out.trans HU.out.2⟩
        have h := HU.out.1
        show GB wf blk 23 ((P ++ (Y1 ++ [IntsV.mk yad ycap yxs]) ++ X3 ++ M ++ (X1 ++ [IntsV.mk xad xcap xxs]) ++ Y3 ++ Q).map IntsV.val ++ R).toArray
        have e : P ++ (Y1 ++ [IntsV.mk yad ycap yxs]) ++ X3 ++ M ++ (X1 ++ [IntsV.mk xad xcap xxs]) ++ Y3 ++ Q = P ++ Y1 ++ IntsV.mk yad ycap yxs :: (X3 ++ M ++ X1) ++ IntsV.mk xad xcap xxs :: (Y3 ++ Q) := by simp
        rw [e]
        exact h
      case measure => simp [intOf]; omega
    · have hkk : k = n := by omega
      subst hkk
      have hx2 : X2 = [] := by
        have h := congrArg List.length eX
        rw [List.length_append] at h
        exact List.eq_nil_of_length_eq_zero (by omega)
      have hy2 : Y2 = [] := by
        have h := congrArg List.length eY
        rw [List.length_append] at h
        exact List.eq_nil_of_length_eq_zero (by omega)
      subst hx2
      subst hy2
      rw [List.append_nil] at eX eY
      subst eX
      subst eY
      rw [List.append_nil, List.append_nil] at hg
      have HF : Hid _ := And.intro hg hK
      clear hg hK HI
      go_wp2
      go_end0
      exact ⟨rfl, HF.out⟩

end Go.Proofs.YtlpbelhfpoilpaaGreat

