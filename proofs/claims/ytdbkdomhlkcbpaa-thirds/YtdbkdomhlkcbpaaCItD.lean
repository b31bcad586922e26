import Derived.Test.YtdbkdomhlkcbpaaCItAItBItCCatA
set_option linter.all false
namespace Go.Scout
open Go.RowKit

theorem rowEl_of_own {w : World} {base : Nat} {e : TypeId} {v : Value} {n : Nat} {xs : List Int} (h : w.ownsRow base e 1 v n (xs.map (Value.int .i64))) (hl : xs.length ≤ 1152921504606846976) :
    ∃ iv : IntsV, v = iv.val ∧ iv.xs = xs ∧ rowEl.At iv w ∧ ∀ b, rowEl.blk iv = some b → base ≤ b := by
  have hn : xs.length = n := by have := h.1; simpa using this
  rcases h.2 with ⟨rfl, h0⟩ | ⟨g, cap, cur, rfl, hb, hh, _, _, hcs, ht⟩
  · have : xs = [] := List.eq_nil_of_length_eq_zero (by omega)
    subst this
    exact ⟨⟨none, 0, []⟩, rfl, rfl, ⟨⟨by simp, fun i hi => absurd hi (by simp)⟩, (fun a ha => by cases ha), fun _ => rfl⟩, fun b hb => by cases hb⟩
  · refine ⟨⟨some ⟨g, 0, none⟩, cap, xs⟩, by rw [← hn]; rfl, rfl, ⟨⟨hl, fun i hi => ⟨g, 0, rfl, ?_⟩⟩, fun a ha => ?_, fun e => by cases e⟩, fun b hb' => ?_⟩
    · have h2 : (cur.toList.take (n * 1))[i]? = some (Value.int .i64 (xs.getD i 0)) := by
        rw [ht]
        have hi' : i < xs.length := hi
        simp [List.getD, hi']
      have h3 : cur[i]? = some (Value.int .i64 (xs.getD i 0)) := by
        rw [List.getElem?_take] at h2
        split at h2
        · simpa using h2
        · cases h2
      simp only [World.cell?, hh]
      simpa using h3
    · cases ha; exact (Array.getElem?_eq_some_iff.1 hh).1
    · cases hb'; exact hb

theorem two_rows {w : World} {x y : IntsV} (hx : rowEl.At x w) (hy : rowEl.At y w) (e : TypeId) : RowsAt (w.alloc (.cells #[x.val, y.val] e)) (some ⟨w.heap.size, 0, none⟩) [x, y] := by
  have hb := below_alloc w (.cells #[x.val, y.val] e)
  refine ⟨by simp, fun i hi => ⟨w.heap.size, 0, rfl, ?_⟩, fun i hi => ?_⟩
  · match i, hi with
    | 0, _ => simp
    | 1, _ => simp
  · match i, hi with
    | 0, _ => exact IntsAt.below hb hx.1
    | 1, _ => exact IntsAt.below hb hy.1

theorem kept_alloc {s : Nat → Prop} {W : World} {o : Obj} {W3 : World} (hb : Below (W.alloc o).heap.size (W.alloc o) W3) : Kept s W W3 :=
  (Kept.alloc W o).trans (Kept.of_below hb (fun b hb _ => hb))

end Go.Scout
namespace Go.Proofs.Ytdbkdomhlkcbpaa
open Go.RowKit Go.Scout Go.Shelf

attribute [local go_sem] Oper.semAt_some

set_option maxRecDepth 100000 in
set_option maxHeartbeats 8000000 in
/-- rows.pair: a row together with each of others, to one who goes on to the end. -/
theorem pair_any (l N : Nat) (J : List IntsV → (Nat → Prop) → World → Prop) (all : List (List Int)) (w0n : Nat) (x : IntsV) (io : Option Addr) (icap : Nat) (rs : List IntsV) (pre : List IntsV) (o1 : Nat → Prop) (W : World)
    (hJ : ∀ pre o1 A B, J pre o1 A → Kept (fun b => o1 b ∨ b < N) A B → J pre o1 B)
    (hY : ∀ pre x o1 W1, J pre o1 W1 → (pre ++ [x]).map rowEl.key <+: all → rowEl.At x W1 → (∀ b, rowEl.blk x = some b → ¬ o1 b ∧ (b < w0n ∨ N ≤ b)) → N ≤ W1.heap.size →
      YieldAt Fence.wide 0 Try.prog l #[rowEl.enc x] W1 fun e W' => e = .returned (.bool true) ∧ ∃ o2, J (pre ++ [x]) o2 W' ∧ Kept (fun b => ¬ o1 b) W1 W' ∧
        ∀ b, o2 b → o1 b ∨ (W1.heap.size ≤ b ∧ b < W'.heap.size) ∨ (rowEl.blk x = some b ∧ N ≤ b))
    (hN : N ≤ W.heap.size) (hj : J pre o1 W) (hpre : pre.map rowEl.key ++ rs.map (fun r => x.xs ++ r.xs) <+: all)
    (hx : rowEl.At x W) (hxo : ∀ b, rowEl.blk x = some b → ¬ o1 b) (hxl : x.xs.length ≤ 1000)
    (hr : RowsHad W io rs) (hio : ∀ a, io = some a → ¬ o1 a.block) (hro : ∀ i, i < rs.length → ∀ a, (rs.getD i iz).ad = some a → ¬ o1 a.block) (hrl : ∀ i, i < rs.length → (rs.getD i iz).xs.length ≤ 1000)
    (ho1 : ∀ b, o1 b → b < W.heap.size) :
    Calls Try.prog 86 #[x.val, .slice io rs.length icap, .func (.yield l) #[] #[]] W fun e W' => e = .returned (.bool true) ∧ ∃ ys o2, ys.map rowEl.key = rs.map (fun r => x.xs ++ r.xs) ∧ J (pre ++ ys) o2 W' ∧ Kept (fun b => ¬ o1 b) W W' ∧
      ∀ b, o2 b → o1 b ∨ (W.heap.size ≤ b ∧ b < W'.heap.size) := by
  have hlen := hr.1.1
  have hxn := hx.2.2
  have HJ : Hid _ := hJ
  have HY : Hid _ := hY
  have HP : Hid _ := hpre
  have HX : Hid _ := hx
  have HXO : Hid _ := hxo
  have HR : Hid _ := hr
  have HIO : Hid _ := hio
  have HRO : Hid _ := hro
  have HRL : Hid _ := hrl
  have HO1 : Hid _ := ho1
  clear hJ hY hpre hx hxo hr hio hro hrl ho1
  obtain ⟨xad, xcap, xxs⟩ := x
  unfold IntsV.val
  simp only at hxn hxl
  simp only
  refine (callsIn_wide (n := 0)).1 (callsIn_of_wp Try.func86 rfl trivial ?_ rfl)
  simp only [Try.ntmps86, List.size_toArray, List.length_cons, List.length_nil, Nat.reduceAdd, Nat.reduceSub, Array.replicate_succ, Array.replicate_zero, List.push_toArray, List.append_toArray, List.nil_append, List.cons_append]
  gi_wp2
  gi_loopw [11] (fun i wr => ∃ k : Nat, k ≤ rs.length ∧ i = .int .i64 k ∧ ∃ ys o2, Hid (ys.map rowEl.key = (rs.take k).map (fun r => xxs ++ r.xs)) ∧ J (pre ++ ys) o2 wr ∧ Kept (fun b => ¬ o1 b) W wr ∧ Hid (∀ b, o2 b → o1 b ∨ (W.heap.size ≤ b ∧ b < wr.heap.size)))
    (fun i _ => rs.length - (intOf i).toNat)
  case atStart => exact ⟨0, Nat.zero_le _, rfl, [], o1, rfl, by simpa using hj, Kept.refl _ _, fun b h => .inl h⟩
  case round =>
    obtain ⟨k, hk, rfl, ys, o2, hys, hjk, hkw, ho2⟩ := hrel
    by_cases hlt : k < rs.length
    · have hstay : ∀ b, b < W.heap.size → ¬ o1 b → wr.heap[b]? = W.heap[b]? ∧ ¬ o2 b := fun b hb h => ⟨hkw.block b hb h, fun h' => by
        rcases ho2.out b h' with h' | h'
        · exact h h'
        · omega⟩
      obtain ⟨b, off, rfl, hcs⟩ := HR.out.1.2.1.get hlt
      have hbio : b < W.heap.size := HR.out.2.1 _ rfl
      have hcx : wr.cell? ⟨b, off + k, none⟩ = some (rs.getD k iz).val := (World.cell?_of_block (a := ⟨b, off + k, none⟩) (hstay b hbio (HIO.out _ rfl)).1).trans (hcs k hlt)
      have hrx : rowEl.At (rs.getD k iz) wr := rowEl.keep (A := W) (HR.out.2.2 k hlt) hkw.size (fun b hb hbx => by obtain ⟨a, ha, rfl⟩ := rowEl_blk hbx; exact (hstay _ hb (HRO.out k hlt a ha)).1)
      have hxx : rowEl.At ⟨xad, xcap, xxs⟩ wr := rowEl.keep HX.out hkw.size (fun b hb hbx => (hstay _ hb (HXO.out b hbx)).1)
      have hrn := (HR.out.2.2 k hlt).2.2
      have hrl := HRL.out k hlt
      have hsn : (rs.take k).map (fun r => xxs ++ r.xs) ++ [xxs ++ (rs.getD k iz).xs] = (rs.take (k + 1)).map (fun r => xxs ++ r.xs) := by rw [← take_snoc rs iz hlt, List.map_append]; rfl
      have HSN : Hid _ := hsn
      generalize rs.getD k iz = y at *
      obtain ⟨yad, ycap, yxs⟩ := y
      have hcx' : wr.cell? ⟨b, off + k, none⟩ = some (.slice yad yxs.length ycap) := hcx
      have HYY : Hid _ := hrx
      have HXX : Hid _ := hxx
      have HST : Hid _ := hstay
      simp only at hrn hrl
      clear hcx hrx hxx hstay hcs hsn
      have hcat := concat_any (some ⟨wr.heap.size, 0, none⟩) 2 [⟨xad, xcap, xxs⟩, ⟨yad, ycap, yxs⟩] (wr.alloc (.cells #[.slice xad xxs.length xcap, .slice yad yxs.length ycap] 23)) (two_rows HXX.out HYY.out _) (by simp) (fun i hi => by
        match i, hi with
        | 0, _ => exact hxn
        | 1, _ => exact hrn) (by simp [flatI]; omega)
      have hfl : flatI [⟨xad, xcap, xxs⟩, ⟨yad, ycap, yxs⟩] = xxs ++ yxs := by simp [flatI]
      rw [hfl] at hcat
      clear hfl
      gi_wp2
      refine ⟨trivial, rfl, callsIn_wide.2 (hcat.mono ?_)⟩
      rintro e w3 ⟨v, rfl, hown, hb3⟩
      obtain ⟨iv, rfl, hivx, hivat, hivb⟩ := rowEl_of_own hown (by simp; omega)
      have hk3 : ∀ s, Kept s wr w3 := fun s => kept_alloc hb3
      have hs3 := (hk3 (fun _ => True)).size
      have hj3 := HJ.out _ _ _ _ hjk (hk3 _)
      have hib : ∀ b, rowEl.blk iv = some b → wr.heap.size ≤ b := fun b hb => by have := hivb b hb; rw [World.size_alloc] at this; omega
      have hno2 : ∀ b, o2 b → b < wr.heap.size := fun b hb => by
        rcases ho2.out b hb with h | h
        · have := HO1.out b h; have := hkw.size; omega
        · exact h.2
      have hp1 : ((pre ++ ys) ++ [iv]).map rowEl.key <+: all := by
        refine List.IsPrefix.trans ?_ HP.out
        have e1 : ((pre ++ ys) ++ [iv]).map rowEl.key = pre.map rowEl.key ++ (rs.take (k + 1)).map (fun r => xxs ++ r.xs) := by
          rw [List.map_append, List.map_append, hys.out, ← HSN.out, ← List.append_assoc]
          show _ ++ [iv.xs] = _
          rw [hivx]
        rw [e1]
        exact (List.prefix_append_right_inj _).2 (List.IsPrefix.map _ (List.take_prefix _ _))
      have hkW := hkw.size
      obtain ⟨fn, tmps, assign, body, hy, hR⟩ := HY.out (pre ++ ys) iv o2 w3 hj3 hp1 hivat (fun b hb => ⟨fun h => by have := hno2 b h; have := hib b hb; omega, .inr (by have := hib b hb; omega)⟩) (by omega)
      have HIV : Hid _ := hivx
      have HK3 : Hid _ := hk3
      have HIA : Hid _ := hivat
      clear hown hb3 hk3 hj3 hp1 hivat hivx hcat HXX HYY
      obtain ⟨vad, vcap, vxs⟩ := iv
      have hy' : (Instr.yield l #[.slice vad vxs.length vcap]).run Try.prog w3 = .ok (.round l fn tmps assign body) w3 := hy
      clear hy
      unfold IntsV.val
      simp only
      gi_wp2
      refine ⟨rfl, hR.mono ?_⟩
      rintro e w4 ⟨rfl, o3, hj4, hk4, hg4⟩
      gi_wp2
      go_roundw
      case rel =>
        refine ⟨k + 1, by omega, by go_num, ys ++ [⟨vad, vcap, vxs⟩], o3, ?_, by rw [← List.append_assoc]; exact hj4, ?_, ?_⟩
        · show _ = _
          rw [List.map_append, hys.out, ← HSN.out]
          show _ ++ [vxs] = _
          rw [show vxs = xxs ++ yxs from HIV.out]
        · refine (hkw.trans (HK3.out _)).trans' hk4 ?_
          intro b hb h h'
          rcases ho2.out b h' with h' | h'
          · exact h h'
          · omega
        · intro b hb
          have hs4 := hk4.size
          rcases hg4 b hb with h | h | h
          · rcases ho2.out b h with h | h
            · exact .inl h
            · exact .inr ⟨h.1, by omega⟩
          · exact .inr ⟨by omega, h.2⟩
          · exact .inr ⟨by have := hib b h.1; omega, by have := rowEl.inn HIA.out h.1; omega⟩
      case measure => simp [intOf]; omega
    · obtain rfl : k = rs.length := by omega
      rw [List.take_length] at hys
      gi_wp2
      go_ret
      exact ⟨rfl, ys, o2, hys.out, hjk, hkw, ho2.out⟩

end Go.Proofs.Ytdbkdomhlkcbpaa

