import Derived.Shelf.Spec.SlicesGrow
import Derived.Laws.AppendOwnNone
import Derived.Test.YtlpbelhfpoilpaaCRLawItAItBItC
set_option linter.all false
namespace Go.Scout
open Go.RowKit

def flatI (rs : List IntsV) : List Int := (rs.map (·.xs)).flatten
theorem flatI_succ {rs : List IntsV} {k : Nat} (hk : k < rs.length) : flatI (rs.take (k + 1)) = flatI (rs.take k) ++ (rs.getD k iz).xs := by
  unfold flatI
  rw [← take_snoc rs iz hk, List.map_append, List.flatten_append]
  simp
theorem flatI_le {rs : List IntsV} {k : Nat} : (flatI (rs.take k)).length ≤ (flatI rs).length := by
  have h : flatI rs = flatI (rs.take k) ++ flatI (rs.drop k) := by
    unfold flatI
    rw [← List.flatten_append, ← List.map_append, List.take_append_drop]
  rw [h, List.length_append]
  omega

theorem IntsAt.keep {A B : World} {ao : Option Addr} {xs : List Int} (h : IntsAt A ao xs) (hb : ∀ a, ao = some a → a.block < A.heap.size → B.heap[a.block]? = A.heap[a.block]?) : IntsAt B ao xs := ⟨h.1, h.2.keep hb⟩

end Go.Scout
namespace Go.Proofs.Ytlpbelhfpoilpaa
open Go.RowKit Go.Scout Go.Shelf

def Try.growI_ren : Go.Shelf.Ren := ⟨fun | 4 => 106 | n => n, fun | 22 => 23 | 25 => 3 | 3 => 3 | 4 => 4 | 9 => 9 | 20 => 20 | 0 => 0 | n => n, fun | n => n⟩
theorem Try.growI : Go.Proofs.Lays8.n4 Try.prog Try.growI_ren := {
  mixed := by kernel_rfl
  f4 := ⟨Try.f106.name, by decide, Try.func106.trans (congrArg some (by kernel_rfl))⟩
  t0 := Try.underlying0
  a0 := Try.isAgg0
  z0 := Try.sizeOf0
  v0 := Try.zeroValue0
  t3 := Try.underlying3
  a3 := Try.isAgg3
  z3 := Try.sizeOf3
  v3 := Try.zeroValue3
  t4 := Try.underlying4
  a4 := Try.isAgg4
  z4 := Try.sizeOf4
  v4 := Try.zeroValue4
  t9 := Try.underlying9
  a9 := Try.isAgg9
  z9 := Try.sizeOf9
  v9 := Try.zeroValue9
  t20 := Try.underlying20
  a20 := Try.isAgg20
  z20 := Try.sizeOf20
  v20 := Try.zeroValue20
  t22 := Try.underlying23
  a22 := Try.isAgg23
  z22 := Try.sizeOf23
  v22 := Try.zeroValue23 }

theorem Try.infoInt : (Try.prog.info? 3).map (fun i => (i.zero, i.size, i.bytes)) = some (some (.int .i64 0), 1, 8) := by kernel_rfl

set_option maxRecDepth 20000 in
set_option maxHeartbeats 4000000 in
theorem grow_nil (n : Nat) (w : World) (hn : n ≤ 1000000) :
    Calls Try.prog 106 #[.slice none 0 0, .int .i64 n] w fun e w' => ∃ v, e = .returned v ∧ w'.ownsRow w.heap.size 3 1 v 0 [] ∧ Below w.heap.size w w' := by
  obtain ⟨i0, hi, hz0, hz1, hz2⟩ := info_parts Try.infoInt
  by_cases h0 : n = 0
  · subst h0
    have h := Any8.slices_Grow_room Try.growI none 0 0 0 w (Nat.le_refl _) (by omega) (by omega) (by omega)
    change Calls Try.prog 106 _ _ _ at h
    refine h.mono ?_
    rintro e w' ⟨rfl, rfl⟩
    exact ⟨_, rfl, World.ownsRow_nil _ _ _ _, Below.refl _ _⟩
  · have h := Any8.slices_Grow_grow Try.growI i0 (.int .i64 0) hi hz0 (by rw [hz1]; decide) none 0 0 n [] w (Nat.le_refl _) (by omega) (by rw [hz2]; omega) (by omega) (by simp) (fun _ => rfl) (fun a e => by cases e)
    change Calls Try.prog 106 _ _ _ at h
    refine h.mono ?_
    rintro e w' ⟨rfl, rfl⟩
    refine ⟨_, rfl, ⟨by simp, .inr ⟨w.heap.size, _, _, rfl, Nat.le_refl _, heap_alloc_new w.drew _, Nat.zero_le _, ?_, ?_, by simp⟩⟩, ?_⟩
    · exact grownCap_le_maxLen _ _ _ _ (by unfold maxLen; omega)
    · have hge := grownCap_ge w (0 + n) 0 3
      have hz : (Value.int .i64 0).cells.size = 1 := rfl
      simp only [Array.size_append, size_zeroCells, hz, List.size_toArray, List.length_nil]
      show 0 + (0 + n - 0) * 1 + (grownCap w (0 + n) 0 3 - (0 + n)) * 1 = grownCap w (0 + n) 0 3 * 1
      omega
    · exact (Below.refl _ w).drew.alloc (Nat.le_refl _) _

set_option maxRecDepth 20000 in
set_option maxHeartbeats 8000000 in
theorem concat_any (ao : Option Addr) (cap : Nat) (rs : List IntsV) (w : World) (hr : RowsAt w ao rs) (hn : rs.length ≤ 1000) (hnil : ∀ i, i < rs.length → (rs.getD i iz).ad = none → (rs.getD i iz).cap = 0) (ht : (flatI rs).length ≤ 100000) :
    Calls Try.prog 99 #[.slice ao rs.length cap] w fun e w' => ∃ v, e = .returned v ∧ w'.ownsRow w.heap.size 3 1 v (flatI rs).length ((flatI rs).map (Value.int .i64)) ∧ Below w.heap.size w w' := by
  obtain ⟨i0, hi, hz0, hz1, hz2⟩ := info_parts Try.infoInt
  have HR : Hid _ := hr
  have HN : Hid _ := hnil
  have HT : Hid _ := ht
  clear hr hnil ht
  go_enter Try.func99, Try.ntmps99
  go_wp2
  go_loopw [3, 11] (fun s i wr => ∃ k : Nat, k ≤ rs.length ∧ i = .int .i64 k ∧ s = .int .i64 (flatI (rs.take k)).length ∧ w = wr) (fun _ i _ => rs.length - (intOf i).toNat)
  case atStart => exact ⟨0, Nat.zero_le _, rfl, rfl, rfl⟩
  case round =>
    obtain ⟨k, hk, rfl, rfl, rfl⟩ := hrel
    by_cases hlt : k < rs.length
    · obtain ⟨b, off, rfl, hcs⟩ := HR.out.2.1.get hlt
      have hck := hcs k hlt
      have hle : (flatI (rs.take (k + 1))).length ≤ 100000 := Nat.le_trans flatI_le HT.out
      have hsc : (flatI (rs.take (k + 1))).length = (flatI (rs.take k)).length + (rs.getD k iz).xs.length := by rw [flatI_succ hlt, List.length_append]
      have HS : Hid _ := hsc
      generalize rs.getD k iz = x at *
      obtain ⟨xad, xcap, xxs⟩ := x
      have hck' : w.cell? ⟨b, off + k, none⟩ = some (.slice xad xxs.length xcap) := hck
      have hw : wrap64 (((flatI (rs.take k)).length : Int) + (xxs.length : Int)) = (((flatI (rs.take k)).length + xxs.length : Nat) : Int) := by
        simp only at hsc
        unfold wrap64; omega
      have hng : ¬ ((((flatI (rs.take k)).length + xxs.length : Nat) : Int) < 0) := by omega
      have HWr : Hid _ := hw
      clear hck hcs hle hsc
      generalize (flatI (rs.take k)).length = a at *
      go_wp2
      go_roundw
      case rel => exact ⟨k + 1, by omega, by go_num, by rw [HS.out]; exact congrArg (Value.int .i64) HWr.out, trivial⟩
      case measure => simp [intOf]; omega
    · have hkk : k = rs.length := by omega
      subst hkk
      rw [List.take_length]
      have ht := HT.out
      generalize hfl : flatI rs = fl at *
      have HF : Hid _ := hfl
      clear hfl
      go_wp2_with fail
      refine (grow_nil fl.length w (by omega)).mono ?_
      rintro e w2 ⟨v0, rfl, hown0, hb0⟩
      go_wp2
      go_loopw [6, 27] (fun v i wr => ∃ k : Nat, k ≤ rs.length ∧ i = .int .i64 k ∧ wr.ownsRow w.heap.size 3 1 v (flatI (rs.take k)).length ((flatI (rs.take k)).map (Value.int .i64)) ∧ Below w.heap.size w wr) (fun _ i _ => rs.length - (intOf i).toNat)
      case atStart => exact ⟨0, Nat.zero_le _, rfl, hown0, hb0⟩
      case round =>
        obtain ⟨k, hk, rfl, hown, hbs⟩ := hrel
        by_cases hlt : k < rs.length
        · obtain ⟨b, off, rfl, hcs⟩ := HR.out.2.1.get hlt
          have hck := (cell_below hbs (hcs k hlt))
          have hat : (rs.getD k iz).At wr := IntsAt.below hbs (HR.out.2.2 k hlt)
          have hni := HN.out k hlt
          have hle : (flatI (rs.take (k + 1))).length ≤ 100000 := by
            have h1 : (flatI (rs.take (k + 1))).length ≤ (flatI rs).length := flatI_le
            rw [HF.out] at h1
            omega
          have hfs := flatI_succ hlt
          have HFS : Hid _ := hfs
          rw [hfs, List.length_append] at hle
          generalize rs.getD k iz = x at *
          obtain ⟨xad, xcap, xxs⟩ := x
          simp only at hni hle
          have hck' : wr.cell? ⟨b, off + k, none⟩ = some (.slice xad xxs.length xcap) := hck
          have HA : Hid _ := hat
          clear hck hcs hfs hat
          generalize flatI (rs.take k) = fk at *
          have hsz := hbs.size
          cases xad with
          | none =>
            have hx0 : xxs = [] := by
              cases xxs with
              | nil => rfl
              | cons a l => obtain ⟨b, off, e, _⟩ := HA.out.2 0 (by simp); cases e
            subst hx0
            obtain rfl := hni rfl
            go_wp2_with (first | (at_builtin; refine wpList_append_own_none rfl _ _ 23 rfl w.heap.size 3 i0 1 Try.underlying23 hi _ _ _ rfl hown rfl ?_))
            go_wp2
            go_roundw
            case rel => exact ⟨k + 1, by omega, by go_num, by rw [HFS.out]; simpa using hown, hbs⟩
            case measure => simp [intOf]; omega
          | some xa =>
            have HQ0 : Hid ((xxs.map (Value.int .i64)).length = xxs.length * 1) := by show _ = _; simp
            have HQ : Hid (∀ j u, (xxs.map (Value.int .i64))[j]? = some u → wr.cell? (xa.add j) = some u) := by
              intro j u hj
              have hjl : j < xxs.length := by
                have := (List.getElem?_eq_some_iff.1 hj).1
                simpa using this
              obtain ⟨b2, off2, e2, hc2⟩ := HA.out.2 j hjl
              cases e2
              rw [List.getElem?_map, List.getElem?_eq_getElem hjl] at hj
              cases hj
              have hc3 := hc2
              simp only [List.getD, List.getElem?_eq_getElem hjl, Option.getD_some] at hc3
              have ha : (⟨b2, off2, none⟩ : Addr).add j = ⟨b2, off2 + j, none⟩ := by
                unfold Addr.add
                split
                · simp_all
                · rfl
              rw [ha]
              exact hc3
            have HQ2 : Hid (∀ u ∈ xxs.map (Value.int .i64), u.oneCell' = true) := by intro u hu; obtain ⟨a, _, rfl⟩ := List.mem_map.1 hu; rfl
            go_wp2_with (first | (at_builtin; refine wpList_append_own _ rfl _ _ 23 rfl w.heap.size 3 i0 (.int .i64 0) 1 8 Try.underlying23 hi hz0 hz1 hz2 rfl (by decide) _ _ _ rfl hown xa xxs.length xcap (xxs.map (Value.int .i64)) rfl HQ0.out HQ.out HQ2.out (by unfold maxLen; omega) (by omega) hsz ?_))
            intro v' w1 hown1 hgrow1 _
            have hb1 : Below w.heap.size w w1 := hbs.grown hgrow1 hsz (fun j hj => (hown.lt j hj).1)
            have HO : Hid _ := hown1
            clear hown1 hgrow1 hown
            go_wp2
            go_roundw
            case rel => exact ⟨k + 1, by omega, by go_num, by rw [HFS.out, List.length_append, List.map_append]; exact HO.out, hb1⟩
            case measure => simp [intOf]; omega
        · have hkk : k = rs.length := by omega
          subst hkk
          rw [List.take_length, HF.out] at hown
          go_wp2
          go_ret
          refine ⟨_, rfl, ?_, hbs⟩
          rw [HF.out]
          exact hown

end Go.Proofs.Ytlpbelhfpoilpaa

namespace Go.Scout
open Go.RowKit

theorem rowEl_of_own {w : World} {base : Nat} {e : TypeId} {v : Value} {n : Nat} {xs : List Int} (h : w.ownsRow base e 1 v n (xs.map (Value.int .i64))) (hl : xs.length ≤ 1152921504606846976) :
    ∃ iv : IntsV, v = iv.val ∧ iv.xs = xs ∧ rowEl.At iv w ∧ ∀ b, rowEl.blk iv = some b → base ≤ b := by
  have hn : xs.length = n := by have := h.1; simpa using this
  rcases h.2 with ⟨rfl, h0⟩ | ⟨g, cap, cur, rfl, hb, hh, _, _, hcs, ht⟩
  · have : xs = [] := List.eq_nil_of_length_eq_zero (by omega)
    subst this
    exact ⟨⟨none, 0, []⟩, rfl, rfl, ⟨⟨by simp, fun i hi => absurd hi (by simp)⟩, (fun a ha => by cases ha), fun _ => rfl⟩, fun b hb => by cases hb⟩
  · refine ⟨⟨some ⟨g, 0, none⟩, cap, xs⟩, by rw [← hn]; rfl, rfl, ⟨⟨hl, fun i hi => ⟨g, 0, rfl, ?_⟩⟩, fun a ha => ?_, fun e => by cases e⟩, fun b hb' => ?_⟩
    · have h2 : (cur.toList.take (n * 1))[i]? = some (Value.int .i64 (xs.getD i 0)) := by
        rw [ht]
        have hi' : i < xs.length := hi
        simp [List.getD, hi']
      have h3 : cur[i]? = some (Value.int .i64 (xs.getD i 0)) := by
        rw [List.getElem?_take] at h2
        split at h2
        · simpa using h2
        · cases h2
      simp only [World.cell?, hh]
      simpa using h3
    · cases ha; exact (Array.getElem?_eq_some_iff.1 hh).1
    · cases hb'; exact hb

theorem two_rows {w : World} {x y : IntsV} (hx : rowEl.At x w) (hy : rowEl.At y w) (e : TypeId) : RowsAt (w.alloc (.cells #[x.val, y.val] e)) (some ⟨w.heap.size, 0, none⟩) [x, y] := by
  have hb := below_alloc w (.cells #[x.val, y.val] e)
  refine ⟨by simp, fun i hi => ⟨w.heap.size, 0, rfl, ?_⟩, fun i hi => ?_⟩
  · match i, hi with
    | 0, _ => simp
    | 1, _ => simp
  · match i, hi with
    | 0, _ => exact IntsAt.below hb hx.1
    | 1, _ => exact IntsAt.below hb hy.1

theorem kept_alloc {s : Nat → Prop} {W : World} {o : Obj} {W3 : World} (hb : Below (W.alloc o).heap.size (W.alloc o) W3) : Kept s W W3 :=
  (Kept.alloc W o).trans (Kept.of_below hb (fun b hb _ => hb))

end Go.Scout
namespace Go.Proofs.Ytlpbelhfpoilpaa
open Go.RowKit Go.Scout Go.Shelf

attribute [local go_sem] Oper.semAt_some

set_option maxRecDepth 100000 in
set_option maxHeartbeats 8000000 in
/-- rows.pair: a row together with each of others, to one who goes on to the end. -/
theorem pair_any (l N : Nat) (J : List IntsV → (Nat → Prop) → World → Prop) (all : List (List Int)) (w0n : Nat) (x : IntsV) (io : Option Addr) (icap : Nat) (rs : List IntsV) (pre : List IntsV) (o1 : Nat → Prop) (W : World)
    (hJ : ∀ pre o1 A B, J pre o1 A → Kept (fun b => o1 b ∨ b < N) A B → J pre o1 B)
    (hY : ∀ pre x o1 W1, J pre o1 W1 → (pre ++ [x]).map rowEl.key <+: all → rowEl.At x W1 → (∀ b, rowEl.blk x = some b → ¬ o1 b ∧ (b < w0n ∨ N ≤ b)) → N ≤ W1.heap.size →
      YieldAt Fence.wide 0 Try.prog l #[rowEl.enc x] W1 fun e W' => e = .returned (.bool true) ∧ ∃ o2, J (pre ++ [x]) o2 W' ∧ Kept (fun b => ¬ o1 b) W1 W' ∧
        ∀ b, o2 b → o1 b ∨ (W1.heap.size ≤ b ∧ b < W'.heap.size) ∨ (rowEl.blk x = some b ∧ N ≤ b))
    (hN : N ≤ W.heap.size) (hj : J pre o1 W) (hpre : pre.map rowEl.key ++ rs.map (fun r => x.xs ++ r.xs) <+: all)
    (hx : rowEl.At x W) (hxo : ∀ b, rowEl.blk x = some b → ¬ o1 b) (hxl : x.xs.length ≤ 1000)
    (hr : RowsHad W io rs) (hio : ∀ a, io = some a → ¬ o1 a.block) (hro : ∀ i, i < rs.length → ∀ a, (rs.getD i iz).ad = some a → ¬ o1 a.block) (hrl : ∀ i, i < rs.length → (rs.getD i iz).xs.length ≤ 1000)
    (ho1 : ∀ b, o1 b → b < W.heap.size) :
    Calls Try.prog 86 #[x.val, .slice io rs.length icap, .func (.yield l) #[] #[]] W fun e W' => e = .returned (.bool true) ∧ ∃ ys o2, ys.map rowEl.key = rs.map (fun r => x.xs ++ r.xs) ∧ J (pre ++ ys) o2 W' ∧ Kept (fun b => ¬ o1 b) W W' ∧
      ∀ b, o2 b → o1 b ∨ (W.heap.size ≤ b ∧ b < W'.heap.size) := by
  have hlen := hr.1.1
  have hxn := hx.2.2
  have HJ : Hid _ := hJ
  have HY : Hid _ := hY
  have HP : Hid _ := hpre
  have HX : Hid _ := hx
  have HXO : Hid _ := hxo
  have HR : Hid _ := hr
  have HIO : Hid _ := hio
  have HRO : Hid _ := hro
  have HRL : Hid _ := hrl
  have HO1 : Hid _ := ho1
  clear hJ hY hpre hx hxo hr hio hro hrl ho1
  obtain ⟨xad, xcap, xxs⟩ := x
  unfold IntsV.val
  simp only at hxn hxl
  simp only
  refine (callsIn_wide (n := 0)).1 (callsIn_of_wp Try.func86 rfl trivial ?_ rfl)
  simp only [Try.ntmps86, List.size_toArray, List.length_cons, List.length_nil, Nat.reduceAdd, Nat.reduceSub, Array.replicate_succ, Array.replicate_zero, List.push_toArray, List.append_toArray, List.nil_append, List.cons_append]
  gi_wp2
  gi_loopw [11] (fun i wr => ∃ k : Nat, k ≤ rs.length ∧ i = .int .i64 k ∧ ∃ ys o2, Hid (ys.map rowEl.key = (rs.take k).map (fun r => xxs ++ r.xs)) ∧ J (pre ++ ys) o2 wr ∧ Kept (fun b => ¬ o1 b) W wr ∧ Hid (∀ b, o2 b → o1 b ∨ (W.heap.size ≤ b ∧ b < wr.heap.size)))
    (fun i _ => rs.length - (intOf i).toNat)
  case atStart => exact ⟨0, Nat.zero_le _, rfl, [], o1, rfl, by simpa using hj, Kept.refl _ _, fun b h => .inl h⟩
  case round =>
    obtain ⟨k, hk, rfl, ys, o2, hys, hjk, hkw, ho2⟩ := hrel
    by_cases hlt : k < rs.length
    · have hstay : ∀ b, b < W.heap.size → ¬ o1 b → wr.heap[b]? = W.heap[b]? ∧ ¬ o2 b := fun b hb h => ⟨hkw.block b hb h, fun h' => by
        rcases ho2.out b h' with h' | h'
        · exact h h'
        · omega⟩
      obtain ⟨b, off, rfl, hcs⟩ := HR.out.1.2.1.get hlt
      have hbio : b < W.heap.size := HR.out.2.1 _ rfl
      have hcx : wr.cell? ⟨b, off + k, none⟩ = some (rs.getD k iz).val := (World.cell?_of_block (a := ⟨b, off + k, none⟩) (hstay b hbio (HIO.out _ rfl)).1).trans (hcs k hlt)
      have hrx : rowEl.At (rs.getD k iz) wr := rowEl.keep (A := W) (HR.out.2.2 k hlt) hkw.size (fun b hb hbx => by obtain ⟨a, ha, rfl⟩ := rowEl_blk hbx; exact (hstay _ hb (HRO.out k hlt a ha)).1)
      have hxx : rowEl.At ⟨xad, xcap, xxs⟩ wr := rowEl.keep HX.out hkw.size (fun b hb hbx => (hstay _ hb (HXO.out b hbx)).1)
      have hrn := (HR.out.2.2 k hlt).2.2
      have hrl := HRL.out k hlt
      have hsn : (rs.take k).map (fun r => xxs ++ r.xs) ++ [xxs ++ (rs.getD k iz).xs] = (rs.take (k + 1)).map (fun r => xxs ++ r.xs) := by rw [← take_snoc rs iz hlt, List.map_append]; rfl
      have HSN : Hid _ := hsn
      generalize rs.getD k iz = y at *
      obtain ⟨yad, ycap, yxs⟩ := y
      have hcx' : wr.cell? ⟨b, off + k, none⟩ = some (.slice yad yxs.length ycap) := hcx
      have HYY : Hid _ := hrx
      have HXX : Hid _ := hxx
      have HST : Hid _ := hstay
      simp only at hrn hrl
      clear hcx hrx hxx hstay hcs hsn
      have hcat := concat_any (some ⟨wr.heap.size, 0, none⟩) 2 [⟨xad, xcap, xxs⟩, ⟨yad, ycap, yxs⟩] (wr.alloc (.cells #[.slice xad xxs.length xcap, .slice yad yxs.length ycap] 23)) (two_rows HXX.out HYY.out _) (by simp) (fun i hi => by
        match i, hi with
        | 0, _ => exact hxn
        | 1, _ => exact hrn) (by simp [flatI]; omega)
      have hfl : flatI [⟨xad, xcap, xxs⟩, ⟨yad, ycap, yxs⟩] = xxs ++ yxs := by simp [flatI]
      rw [hfl] at hcat
      clear hfl
      gi_wp2
      refine ⟨trivial, rfl, callsIn_wide.2 (hcat.mono ?_)⟩
      rintro e w3 ⟨v, rfl, hown, hb3⟩
      obtain ⟨iv, rfl, hivx, hivat, hivb⟩ := rowEl_of_own hown (by simp; omega)
      have hk3 : ∀ s, Kept s wr w3 := fun s => kept_alloc hb3
      have hs3 := (hk3 (fun _ => True)).size
      have hj3 := HJ.out _ _ _ _ hjk (hk3 _)
      have hib : ∀ b, rowEl.blk iv = some b → wr.heap.size ≤ b := fun b hb => by have := hivb b hb; rw [World.size_alloc] at this; omega
      have hno2 : ∀ b, o2 b → b < wr.heap.size := fun b hb => by
        rcases ho2.out b hb with h | h
        · have := HO1.out b h; have := hkw.size; omega
        · exact h.2
      have hp1 : ((pre ++ ys) ++ [iv]).map rowEl.key <+: all := by
        refine List.IsPrefix.trans ?_ HP.out
        have e1 : ((pre ++ ys) ++ [iv]).map rowEl.key = pre.map rowEl.key ++ (rs.take (k + 1)).map (fun r => xxs ++ r.xs) := by
          rw [List.map_append, List.map_append, hys.out, ← HSN.out, ← List.append_assoc]
          show _ ++ [iv.xs] = _
          rw [hivx]
        rw [e1]
        exact (List.prefix_append_right_inj _).2 (List.IsPrefix.map _ (List.take_prefix _ _))
      have hkW := hkw.size
      obtain ⟨fn, tmps, assign, body, hy, hR⟩ := HY.out (pre ++ ys) iv o2 w3 hj3 hp1 hivat (fun b hb => ⟨fun h => by have := hno2 b h; have := hib b hb; omega, .inr (by have := hib b hb; omega)⟩) (by omega)
      have HIV : Hid _ := hivx
      have HK3 : Hid _ := hk3
      have HIA : Hid _ := hivat
      clear hown hb3 hk3 hj3 hp1 hivat hivx hcat HXX HYY
      obtain ⟨vad, vcap, vxs⟩ := iv
      have hy' : (Instr.yield l #[.slice vad vxs.length vcap]).run Try.prog w3 = .ok (.round l fn tmps assign body) w3 := hy
      clear hy
      unfold IntsV.val
      simp only
      gi_wp2
      refine ⟨rfl, hR.mono ?_⟩
      rintro e w4 ⟨rfl, o3, hj4, hk4, hg4⟩
      gi_wp2
      go_roundw
      case rel =>
        refine ⟨k + 1, by omega, by go_num, ys ++ [⟨vad, vcap, vxs⟩], o3, ?_, by rw [← List.append_assoc]; exact hj4, ?_, ?_⟩
        · show _ = _
          rw [List.map_append, hys.out, ← HSN.out]
          show _ ++ [vxs] = _
          rw [show vxs = xxs ++ yxs from HIV.out]
        · refine (hkw.trans (HK3.out _)).trans' hk4 ?_
          intro b hb h h'
          rcases ho2.out b h' with h' | h'
          · exact h h'
          · omega
        · intro b hb
          have hs4 := hk4.size
          rcases hg4 b hb with h | h | h
          · rcases ho2.out b h with h | h
            · exact .inl h
            · exact .inr ⟨h.1, by omega⟩
          · exact .inr ⟨by omega, h.2⟩
          · exact .inr ⟨by have := hib b h.1; omega, by have := rowEl.inn HIA.out h.1; omega⟩
      case measure => simp [intOf]; omega
    · obtain rfl : k = rs.length := by omega
      rw [List.take_length] at hys
      gi_wp2
      go_ret
      exact ⟨rfl, ys, o2, hys.out, hjk, hkw, ho2.out⟩

end Go.Proofs.Ytlpbelhfpoilpaa

