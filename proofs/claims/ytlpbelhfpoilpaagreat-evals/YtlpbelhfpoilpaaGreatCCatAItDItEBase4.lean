import Derived.Shelf.Spec.SlicesGrow
import Derived.Laws.AppendOwnNone
import Derived.Deep.QuietTactic
import Derived.BigQuiet
import Derived.WalkSmall
import Derived.Test.YtlpbelhfpoilpaaGreatCRLawBaseBase2Base3
import Derived.Test.YtlpbelhfpoilpaaGreatCBaseRItAItBItC
set_option linter.all false
namespace Go.Scout
open Go.RowKit

def flatI (rs : List IntsV) : List Int := (rs.map (·.xs)).flatten
theorem flatI_succ {rs : List IntsV} {k : Nat} (hk : k < rs.length) : flatI (rs.take (k + 1)) = flatI (rs.take k) ++ (rs.getD k iz).xs := by
  unfold flatI
  rw [← take_snoc rs iz hk, List.map_append, List.flatten_append]
  simp
theorem flatI_le {rs : List IntsV} {k : Nat} : (flatI (rs.take k)).length ≤ (flatI rs).length := by
  have h : flatI rs = flatI (rs.take k) ++ flatI (rs.drop k) := by
    unfold flatI
    rw [← List.flatten_append, ← List.map_append, List.take_append_drop]
  rw [h, List.length_append]
  omega

theorem IntsAt.keep {A B : World} {ao : Option Addr} {xs : List Int} (h : IntsAt A ao xs) (hb : ∀ a, ao = some a → a.block < A.heap.size → B.heap[a.block]? = A.heap[a.block]?) : IntsAt B ao xs := ⟨h.1, h.2.keep hb⟩

end Go.Scout
namespace Go.Proofs.YtlpbelhfpoilpaaGreat
open Go.RowKit Go.Scout Go.Shelf

def Tryz.growI_ren : Go.Shelf.Ren := ⟨fun | 4 => 107 | n => n, fun | 22 => 23 | 25 => 3 | 3 => 3 | 4 => 4 | 9 => 9 | 20 => 20 | 0 => 0 | n => n, fun | n => n⟩
theorem Tryz.growI : Go.Proofs.Lays8.n4 Tryz.prog Tryz.growI_ren := {
  mixed := by kernel_rfl
  f4 := ⟨Tryz.f107.name, by decide, Tryz.func107.trans (congrArg some (by kernel_rfl))⟩
  t0 := Tryz.underlying0
  a0 := Tryz.isAgg0
  z0 := Tryz.sizeOf0
  v0 := Tryz.zeroValue0
  t3 := Tryz.underlying3
  a3 := Tryz.isAgg3
  z3 := Tryz.sizeOf3
  v3 := Tryz.zeroValue3
  t4 := Tryz.underlying4
  a4 := Tryz.isAgg4
  z4 := Tryz.sizeOf4
  v4 := Tryz.zeroValue4
  t9 := Tryz.underlying9
  a9 := Tryz.isAgg9
  z9 := Tryz.sizeOf9
  v9 := Tryz.zeroValue9
  t20 := Tryz.underlying20
  a20 := Tryz.isAgg20
  z20 := Tryz.sizeOf20
  v20 := Tryz.zeroValue20
  t22 := Tryz.underlying23
  a22 := Tryz.isAgg23
  z22 := Tryz.sizeOf23
  v22 := Tryz.zeroValue23 }

theorem Tryz.infoInt : (Tryz.prog.info? 3).map (fun i => (i.zero, i.size, i.bytes)) = some (some (.int .i64 0), 1, 8) := by kernel_rfl

set_option maxRecDepth 20000 in
set_option maxHeartbeats 4000000 in
theorem grow_nil (n : Nat) (w : World) (hn : n ≤ 1000000) :
    Calls Tryz.prog 107 #[.slice none 0 0, .int .i64 n] w fun e w' => ∃ v, e = .returned v ∧ w'.ownsRow w.heap.size 3 1 v 0 [] ∧ Below w.heap.size w w' := by
  obtain ⟨i0, hi, hz0, hz1, hz2⟩ := info_parts Tryz.infoInt
  by_cases h0 : n = 0
  · subst h0
    have h := Any8.slices_Grow_room Tryz.growI none 0 0 0 w (Nat.le_refl _) (by omega) (by omega) (by omega)
    change Calls Tryz.prog 107 _ _ _ at h
    refine h.mono ?_
    rintro e w' ⟨rfl, rfl⟩
    exact ⟨_, rfl, World.ownsRow_nil _ _ _ _, Below.refl _ _⟩
  · have h := Any8.slices_Grow_grow Tryz.growI i0 (.int .i64 0) hi hz0 (by rw [hz1]; decide) none 0 0 n [] w (Nat.le_refl _) (by omega) (by rw [hz2]; omega) (by omega) (by simp) (fun _ => rfl) (fun a e => by cases e)
    change Calls Tryz.prog 107 _ _ _ at h
    refine h.mono ?_
    rintro e w' ⟨rfl, rfl⟩
    refine ⟨_, rfl, ⟨by simp, .inr ⟨w.heap.size, _, _, rfl, Nat.le_refl _, heap_alloc_new w.drew _, Nat.zero_le _, ?_, ?_, by simp⟩⟩, ?_⟩
    · exact grownCap_le_maxLen _ _ _ _ (by unfold maxLen; omega)
    · have hge := grownCap_ge w (0 + n) 0 3
      have hz : (Value.int .i64 0).cells.size = 1 := rfl
      simp only [Array.size_append, size_zeroCells, hz, List.size_toArray, List.length_nil]
      show 0 + (0 + n - 0) * 1 + (grownCap w (0 + n) 0 3 - (0 + n)) * 1 = grownCap w (0 + n) 0 3 * 1
      omega
    · exact (Below.refl _ w).drew.alloc (Nat.le_refl _) _

set_option maxRecDepth 20000 in
set_option maxHeartbeats 8000000 in
theorem concat_any (ao : Option Addr) (cap : Nat) (rs : List IntsV) (w : World) (hr : RowsAt w ao rs) (hn : rs.length ≤ 1000) (hnil : ∀ i, i < rs.length → (rs.getD i iz).ad = none → (rs.getD i iz).cap = 0) (ht : (flatI rs).length ≤ 100000) :
    Calls Tryz.prog 100 #[.slice ao rs.length cap] w fun e w' => ∃ v, e = .returned v ∧ w'.ownsRow w.heap.size 3 1 v (flatI rs).length ((flatI rs).map (Value.int .i64)) ∧ Below w.heap.size w w' := by
  obtain ⟨i0, hi, hz0, hz1, hz2⟩ := info_parts Tryz.infoInt
  have HR : Hid _ := hr
  have HN : Hid _ := hnil
  have HT : Hid _ := ht
  clear hr hnil ht
  go_enter Tryz.func100, Tryz.ntmps100
  go_wp2
  go_loopw [3, 11] (fun s i wr => ∃ k : Nat, k ≤ rs.length ∧ i = .int .i64 k ∧ s = .int .i64 (flatI (rs.take k)).length ∧ w = wr) (fun _ i _ => rs.length - (intOf i).toNat)
  case atStart => exact ⟨0, Nat.zero_le _, rfl, rfl, rfl⟩
  case round =>
    obtain ⟨k, hk, rfl, rfl, rfl⟩ := hrel
    by_cases hlt : k < rs.length
    · obtain ⟨b, off, rfl, hcs⟩ := HR.out.2.1.get hlt
      have hck := hcs k hlt
      have hle : (flatI (rs.take (k + 1))).length ≤ 100000 := Nat.le_trans flatI_le HT.out
      have hsc : (flatI (rs.take (k + 1))).length = (flatI (rs.take k)).length + (rs.getD k iz).xs.length := by rw [flatI_succ hlt, List.length_append]
      have HS : Hid _ := hsc
      generalize rs.getD k iz = x at *
      obtain ⟨xad, xcap, xxs⟩ := x
      have hck' : w.cell? ⟨b, off + k, none⟩ = some (.slice xad xxs.length xcap) := hck
      have hw : wrap64 (((flatI (rs.take k)).length : Int) + (xxs.length : Int)) = (((flatI (rs.take k)).length + xxs.length : Nat) : Int) := by
        simp only at hsc
        unfold wrap64; omega
      have hng : ¬ ((((flatI (rs.take k)).length + xxs.length : Nat) : Int) < 0) := by omega
      have HWr : Hid _ := hw
      clear hck hcs hle hsc
      generalize (flatI (rs.take k)).length = a at *
      go_wp2
      go_roundw
      case rel => exact ⟨k + 1, by omega, by go_num, by rw [HS.out]; exact congrArg (Value.int .i64) HWr.out, trivial⟩
      case measure => simp [intOf]; omega
    · have hkk : k = rs.length := by omega
      subst hkk
      rw [List.take_length]
      have ht := HT.out
      generalize hfl : flatI rs = fl at *
      have HF : Hid _ := hfl
      clear hfl
      go_wp2_with fail
      refine (grow_nil fl.length w (by omega)).mono ?_
      rintro e w2 ⟨v0, rfl, hown0, hb0⟩
      go_wp2
      go_loopw [6, 27] (fun v i wr => ∃ k : Nat, k ≤ rs.length ∧ i = .int .i64 k ∧ wr.ownsRow w.heap.size 3 1 v (flatI (rs.take k)).length ((flatI (rs.take k)).map (Value.int .i64)) ∧ Below w.heap.size w wr) (fun _ i _ => rs.length - (intOf i).toNat)
      case atStart => exact ⟨0, Nat.zero_le _, rfl, hown0, hb0⟩
      case round =>
        obtain ⟨k, hk, rfl, hown, hbs⟩ := hrel
        by_cases hlt : k < rs.length
        · obtain ⟨b, off, rfl, hcs⟩ := HR.out.2.1.get hlt
          have hck := (cell_below hbs (hcs k hlt))
          have hat : (rs.getD k iz).At wr := IntsAt.below hbs (HR.out.2.2 k hlt)
          have hni := HN.out k hlt
          have hle : (flatI (rs.take (k + 1))).length ≤ 100000 := by
            have h1 : (flatI (rs.take (k + 1))).length ≤ (flatI rs).length := flatI_le
            rw [HF.out] at h1
            omega
          have hfs := flatI_succ hlt
          have HFS : Hid _ := hfs
          rw [hfs, List.length_append] at hle
          generalize rs.getD k iz = x at *
          obtain ⟨xad, xcap, xxs⟩ := x
          simp only at hni hle
          have hck' : wr.cell? ⟨b, off + k, none⟩ = some (.slice xad xxs.length xcap) := hck
          have HA : Hid _ := hat
          clear hck hcs hfs hat
          generalize flatI (rs.take k) = fk at *
          have hsz := hbs.size
          cases xad with
          | none =>
            have hx0 : xxs = [] := by
              cases xxs with
              | nil => rfl
              | cons a l => obtain ⟨b, off, e, _⟩ := HA.out.2 0 (by simp); cases e
            subst hx0
            obtain rfl := hni rfl
            go_wp2_with (first | (at_builtin; refine wpList_append_own_none rfl _ _ 23 rfl w.heap.size 3 i0 1 Tryz.underlying23 hi _ _ _ rfl hown rfl ?_))
            go_wp2
            go_roundw
            case rel => exact ⟨k + 1, by omega, by go_num, by rw [HFS.out]; simpa using hown, hbs⟩
            case measure => simp [intOf]; omega
          | some xa =>
            have HQ0 : Hid ((xxs.map (Value.int .i64)).length = xxs.length * 1) := by show _ = _; simp
            have HQ : Hid (∀ j u, (xxs.map (Value.int .i64))[j]? = some u → wr.cell? (xa.add j) = some u) := by
              intro j u hj
              have hjl : j < xxs.length := by
                have := (List.getElem?_eq_some_iff.1 hj).1
                simpa using this
              obtain ⟨b2, off2, e2, hc2⟩ := HA.out.2 j hjl
              cases e2
              rw [List.getElem?_map, List.getElem?_eq_getElem hjl] at hj
              cases hj
              have hc3 := hc2
              simp only [List.getD, List.getElem?_eq_getElem hjl, Option.getD_some] at hc3
              have ha : (⟨b2, off2, none⟩ : Addr).add j = ⟨b2, off2 + j, none⟩ := by
                unfold Addr.add
                split
                · simp_all
                · rfl
              rw [ha]
              exact hc3
            have HQ2 : Hid (∀ u ∈ xxs.map (Value.int .i64), u.oneCell' = true) := by intro u hu; obtain ⟨a, _, rfl⟩ := List.mem_map.1 hu; rfl
            go_wp2_with (first | (at_builtin; refine wpList_append_own _ rfl _ _ 23 rfl w.heap.size 3 i0 (.int .i64 0) 1 8 Tryz.underlying23 hi hz0 hz1 hz2 rfl (by decide) _ _ _ rfl hown xa xxs.length xcap (xxs.map (Value.int .i64)) rfl HQ0.out HQ.out HQ2.out (by unfold maxLen; omega) (by omega) hsz ?_))
            intro v' w1 hown1 hgrow1 _
            have hb1 : Below w.heap.size w w1 := hbs.grown hgrow1 hsz (fun j hj => (hown.lt j hj).1)
            have HO : Hid _ := hown1
            clear hown1 hgrow1 hown
            go_wp2
            go_roundw
            case rel => exact ⟨k + 1, by omega, by go_num, by rw [HFS.out, List.length_append, List.map_append]; exact HO.out, hb1⟩
            case measure => simp [intOf]; omega
        · have hkk : k = rs.length := by omega
          subst hkk
          rw [List.take_length, HF.out] at hown
          go_wp2
          go_ret
          refine ⟨_, rfl, ?_, hbs⟩
          rw [HF.out]
          exact hown

end Go.Proofs.YtlpbelhfpoilpaaGreat

namespace Go.Scout
open Go.RowKit

theorem rowEl_of_own {w : World} {base : Nat} {e : TypeId} {v : Value} {n : Nat} {xs : List Int} (h : w.ownsRow base e 1 v n (xs.map (Value.int .i64))) (hl : xs.length ≤ 1152921504606846976) :
    ∃ iv : IntsV, v = iv.val ∧ iv.xs = xs ∧ rowEl.At iv w ∧ ∀ b, rowEl.blk iv = some b → base ≤ b := by
  have hn : xs.length = n := by have := h.1; simpa using this
  rcases h.2 with ⟨rfl, h0⟩ | ⟨g, cap, cur, rfl, hb, hh, _, _, hcs, ht⟩
  · have : xs = [] := List.eq_nil_of_length_eq_zero (by omega)
    subst this
    exact ⟨⟨none, 0, []⟩, rfl, rfl, ⟨⟨by simp, fun i hi => absurd hi (by simp)⟩, (fun a ha => by cases ha), fun _ => rfl⟩, fun b hb => by cases hb⟩
  · refine ⟨⟨some ⟨g, 0, none⟩, cap, xs⟩, by rw [← hn]; rfl, rfl, ⟨⟨hl, fun i hi => ⟨g, 0, rfl, ?_⟩⟩, fun a ha => ?_, fun e => by cases e⟩, fun b hb' => ?_⟩
    · have h2 : (cur.toList.take (n * 1))[i]? = some (Value.int .i64 (xs.getD i 0)) := by
        rw [ht]
        have hi' : i < xs.length := hi
        simp [List.getD, hi']
      have h3 : cur[i]? = some (Value.int .i64 (xs.getD i 0)) := by
        rw [List.getElem?_take] at h2
        split at h2
        · simpa using h2
        · cases h2
      simp only [World.cell?, hh]
      simpa using h3
    · cases ha; exact (Array.getElem?_eq_some_iff.1 hh).1
    · cases hb'; exact hb

theorem two_rows {w : World} {x y : IntsV} (hx : rowEl.At x w) (hy : rowEl.At y w) (e : TypeId) : RowsAt (w.alloc (.cells #[x.val, y.val] e)) (some ⟨w.heap.size, 0, none⟩) [x, y] := by
  have hb := below_alloc w (.cells #[x.val, y.val] e)
  refine ⟨by simp, fun i hi => ⟨w.heap.size, 0, rfl, ?_⟩, fun i hi => ?_⟩
  · match i, hi with
    | 0, _ => simp
    | 1, _ => simp
  · match i, hi with
    | 0, _ => exact IntsAt.below hb hx.1
    | 1, _ => exact IntsAt.below hb hy.1

theorem kept_alloc {s : Nat → Prop} {W : World} {o : Obj} {W3 : World} (hb : Below (W.alloc o).heap.size (W.alloc o) W3) : Kept s W W3 :=
  (Kept.alloc W o).trans (Kept.of_below hb (fun b hb _ => hb))

end Go.Scout
namespace Go.Proofs.YtlpbelhfpoilpaaGreat
open Go.RowKit Go.Scout Go.Shelf

attribute [local go_sem] Oper.semAt_some

set_option maxRecDepth 100000 in
set_option maxHeartbeats 8000000 in
/-- rows.pair: a row together with each of others, to one who goes on to the end. -/
theorem pair_any (l N : Nat) (J : List IntsV → (Nat → Prop) → World → Prop) (all : List (List Int)) (w0n : Nat) (x : IntsV) (io : Option Addr) (icap : Nat) (rs : List IntsV) (pre : List IntsV) (o1 : Nat → Prop) (W : World)
    (hJ : ∀ pre o1 A B, J pre o1 A → Kept (fun b => o1 b ∨ b < N) A B → J pre o1 B)
    (hY : ∀ pre x o1 W1, J pre o1 W1 → (pre ++ [x]).map rowEl.key <+: all → rowEl.At x W1 → (∀ b, rowEl.blk x = some b → ¬ o1 b ∧ (b < w0n ∨ N ≤ b)) → N ≤ W1.heap.size →
      YieldAt Fence.wide 0 Tryz.prog l #[rowEl.enc x] W1 fun e W' => e = .returned (.bool true) ∧ ∃ o2, J (pre ++ [x]) o2 W' ∧ Kept (fun b => ¬ o1 b) W1 W' ∧
        ∀ b, o2 b → o1 b ∨ (W1.heap.size ≤ b ∧ b < W'.heap.size) ∨ (rowEl.blk x = some b ∧ N ≤ b))
    (hN : N ≤ W.heap.size) (hj : J pre o1 W) (hpre : pre.map rowEl.key ++ rs.map (fun r => x.xs ++ r.xs) <+: all)
    (hx : rowEl.At x W) (hxo : ∀ b, rowEl.blk x = some b → ¬ o1 b) (hxl : x.xs.length ≤ 1000)
    (hr : RowsHad W io rs) (hio : ∀ a, io = some a → ¬ o1 a.block) (hro : ∀ i, i < rs.length → ∀ a, (rs.getD i iz).ad = some a → ¬ o1 a.block) (hrl : ∀ i, i < rs.length → (rs.getD i iz).xs.length ≤ 1000)
    (ho1 : ∀ b, o1 b → b < W.heap.size) :
    Calls Tryz.prog 87 #[x.val, .slice io rs.length icap, .func (.yield l) #[] #[]] W fun e W' => e = .returned (.bool true) ∧ ∃ ys o2, ys.map rowEl.key = rs.map (fun r => x.xs ++ r.xs) ∧ J (pre ++ ys) o2 W' ∧ Kept (fun b => ¬ o1 b) W W' ∧
      ∀ b, o2 b → o1 b ∨ (W.heap.size ≤ b ∧ b < W'.heap.size) := by
  have hlen := hr.1.1
  have hxn := hx.2.2
  have HJ : Hid _ := hJ
  have HY : Hid _ := hY
  have HP : Hid _ := hpre
  have HX : Hid _ := hx
  have HXO : Hid _ := hxo
  have HR : Hid _ := hr
  have HIO : Hid _ := hio
  have HRO : Hid _ := hro
  have HRL : Hid _ := hrl
  have HO1 : Hid _ := ho1
  clear hJ hY hpre hx hxo hr hio hro hrl ho1
  obtain ⟨xad, xcap, xxs⟩ := x
  unfold IntsV.val
  simp only at hxn hxl
  simp only
  refine (callsIn_wide (n := 0)).1 (callsIn_of_wp Tryz.func87 rfl trivial ?_ rfl)
  simp only [Tryz.ntmps87, List.size_toArray, List.length_cons, List.length_nil, Nat.reduceAdd, Nat.reduceSub, Array.replicate_succ, Array.replicate_zero, List.push_toArray, List.append_toArray, List.nil_append, List.cons_append]
  gi_wp2
  gi_loopw [11] (fun i wr => ∃ k : Nat, k ≤ rs.length ∧ i = .int .i64 k ∧ ∃ ys o2, Hid (ys.map rowEl.key = (rs.take k).map (fun r => xxs ++ r.xs)) ∧ J (pre ++ ys) o2 wr ∧ Kept (fun b => ¬ o1 b) W wr ∧ Hid (∀ b, o2 b → o1 b ∨ (W.heap.size ≤ b ∧ b < wr.heap.size)))
    (fun i _ => rs.length - (intOf i).toNat)
  case atStart => exact ⟨0, Nat.zero_le _, rfl, [], o1, rfl, by simpa using hj, Kept.refl _ _, fun b h => .inl h⟩
  case round =>
    obtain ⟨k, hk, rfl, ys, o2, hys, hjk, hkw, ho2⟩ := hrel
    by_cases hlt : k < rs.length
    · have hstay : ∀ b, b < W.heap.size → ¬ o1 b → wr.heap[b]? = W.heap[b]? ∧ ¬ o2 b := fun b hb h => ⟨hkw.block b hb h, fun h' => by
        rcases ho2.out b h' with h' | h'
        · exact h h'
        · omega⟩
      obtain ⟨b, off, rfl, hcs⟩ := HR.out.1.2.1.get hlt
      have hbio : b < W.heap.size := HR.out.2.1 _ rfl
      have hcx : wr.cell? ⟨b, off + k, none⟩ = some (rs.getD k iz).val := (World.cell?_of_block (a := ⟨b, off + k, none⟩) (hstay b hbio (HIO.out _ rfl)).1).trans (hcs k hlt)
      have hrx : rowEl.At (rs.getD k iz) wr := rowEl.keep (A := W) (HR.out.2.2 k hlt) hkw.size (fun b hb hbx => by obtain ⟨a, ha, rfl⟩ := rowEl_blk hbx; exact (hstay _ hb (HRO.out k hlt a ha)).1)
      have hxx : rowEl.At ⟨xad, xcap, xxs⟩ wr := rowEl.keep HX.out hkw.size (fun b hb hbx => (hstay _ hb (HXO.out b hbx)).1)
      have hrn := (HR.out.2.2 k hlt).2.2
      have hrl := HRL.out k hlt
      have hsn : (rs.take k).map (fun r => xxs ++ r.xs) ++ [xxs ++ (rs.getD k iz).xs] = (rs.take (k + 1)).map (fun r => xxs ++ r.xs) := by rw [← take_snoc rs iz hlt, List.map_append]; rfl
      have HSN : Hid _ := hsn
      generalize rs.getD k iz = y at *
      obtain ⟨yad, ycap, yxs⟩ := y
      have hcx' : wr.cell? ⟨b, off + k, none⟩ = some (.slice yad yxs.length ycap) := hcx
      have HYY : Hid _ := hrx
      have HXX : Hid _ := hxx
      have HST : Hid _ := hstay
      simp only at hrn hrl
      clear hcx hrx hxx hstay hcs hsn
      have hcat := concat_any (some ⟨wr.heap.size, 0, none⟩) 2 [⟨xad, xcap, xxs⟩, ⟨yad, ycap, yxs⟩] (wr.alloc (.cells #[.slice xad xxs.length xcap, .slice yad yxs.length ycap] 23)) (two_rows HXX.out HYY.out _) (by simp) (fun i hi => by
        match i, hi with
        | 0, _ => exact hxn
        | 1, _ => exact hrn) (by simp [flatI]; omega)
      have hfl : flatI [⟨xad, xcap, xxs⟩, ⟨yad, ycap, yxs⟩] = xxs ++ yxs := by simp [flatI]
      rw [hfl] at hcat
      clear hfl
      gi_wp2
      refine ⟨trivial, rfl, callsIn_wide.2 (hcat.mono ?_)⟩
      rintro e w3 ⟨v, rfl, hown, hb3⟩
      obtain ⟨iv, rfl, hivx, hivat, hivb⟩ := rowEl_of_own hown (by simp; omega)
      have hk3 : ∀ s, Kept s wr w3 := fun s => kept_alloc hb3
      have hs3 := (hk3 (fun _ => True)).size
      have hj3 := HJ.out _ _ _ _ hjk (hk3 _)
      have hib : ∀ b, rowEl.blk iv = some b → wr.heap.size ≤ b := fun b hb => by have := hivb b hb; rw [World.size_alloc] at this; omega
      have hno2 : ∀ b, o2 b → b < wr.heap.size := fun b hb => by
        rcases ho2.out b hb with h | h
        · have := HO1.out b h; have := hkw.size; omega
        · exact h.2
      have hp1 : ((pre ++ ys) ++ [iv]).map rowEl.key <+: all := by
        refine List.IsPrefix.trans ?_ HP.out
        have e1 : ((pre ++ ys) ++ [iv]).map rowEl.key = pre.map rowEl.key ++ (rs.take (k + 1)).map (fun r => xxs ++ r.xs) := by
          rw [List.map_append, List.map_append, hys.out, ← HSN.out, ← List.append_assoc]
          show _ ++ [iv.xs] = _
          rw [hivx]
        rw [e1]
        exact (List.prefix_append_right_inj _).2 (List.IsPrefix.map _ (List.take_prefix _ _))
      have hkW := hkw.size
      obtain ⟨fn, tmps, assign, body, hy, hR⟩ := HY.out (pre ++ ys) iv o2 w3 hj3 hp1 hivat (fun b hb => ⟨fun h => by have := hno2 b h; have := hib b hb; omega, .inr (by have := hib b hb; omega)⟩) (by omega)
      have HIV : Hid _ := hivx
      have HK3 : Hid _ := hk3
      have HIA : Hid _ := hivat
      clear hown hb3 hk3 hj3 hp1 hivat hivx hcat HXX HYY
      obtain ⟨vad, vcap, vxs⟩ := iv
      have hy' : (Instr.yield l #[.slice vad vxs.length vcap]).run Tryz.prog w3 = .ok (.round l fn tmps assign body) w3 := hy
      clear hy
      unfold IntsV.val
      simp only
      gi_wp2
      refine ⟨rfl, hR.mono ?_⟩
      rintro e w4 ⟨rfl, o3, hj4, hk4, hg4⟩
      gi_wp2
      go_roundw
      case rel =>
        refine ⟨k + 1, by omega, by go_num, ys ++ [⟨vad, vcap, vxs⟩], o3, ?_, by rw [← List.append_assoc]; exact hj4, ?_, ?_⟩
        · show _ = _
          rw [List.map_append, hys.out, ← HSN.out]
          show _ ++ [vxs] = _
          rw [show vxs = xxs ++ yxs from HIV.out]
        · refine (hkw.trans (HK3.out _)).trans' hk4 ?_
          intro b hb h h'
          rcases ho2.out b h' with h' | h'
          · exact h h'
          · omega
        · intro b hb
          have hs4 := hk4.size
          rcases hg4 b hb with h | h | h
          · rcases ho2.out b h with h | h
            · exact .inl h
            · exact .inr ⟨h.1, by omega⟩
          · exact .inr ⟨by omega, h.2⟩
          · exact .inr ⟨by have := hib b h.1; omega, by have := rowEl.inn HIA.out h.1; omega⟩
      case measure => simp [intOf]; omega
    · obtain rfl : k = rs.length := by omega
      rw [List.take_length] at hys
      gi_wp2
      go_ret
      exact ⟨rfl, ys, o2, hys.out, hjk, hkw, ho2.out⟩

end Go.Proofs.YtlpbelhfpoilpaaGreat

namespace Go.Scout
open Go.RowKit

def joinN (L R : List (List Int)) : List (List Int) := L.flatMap fun a => R.map fun b => a ++ b
theorem joinN_snoc (L R : List (List Int)) (a : List Int) : joinN (L ++ [a]) R = joinN L R ++ R.map (fun b => a ++ b) := by simp [joinN, List.flatMap_append]
theorem joinN_pre {L L' R : List (List Int)} (h : L <+: L') : joinN L R <+: joinN L' R := by
  obtain ⟨t, rfl⟩ := h
  exact ⟨joinN t R, by simp [joinN, List.flatMap_append]⟩

/-- What was gathered is a table that lies in memory. -/
theorem Gathered.had {n0 : Nat} {w : World} {e : TypeId} {ys : List IntsV} {o : Nat → Prop} {W : World} {v : Value} (h : Gathered rowEl n0 w e ys o W v) (hl : ys.length ≤ 1000000) :
    ∃ ad cap, v = .slice ad ys.length cap ∧ RowsHad W ad ys ∧ ∀ a, ad = some a → w.heap.size < a.block := by
  have hat : ∀ i, i < ys.length → rowEl.At (ys.getD i iz) W := fun i hi => by
    have : ys.getD i iz ∈ ys := by simp [List.getD, hi]
    exact h.at' _ this
  have hrn : ys.map IntsV.val = ys.map IntsV.val := rfl
  rcases h.own.2 with ⟨hv, h0⟩ | ⟨g, cap, cur, hv, hb, hh, hc1, hc2, hc3, ht⟩
  · have : ys = [] := List.eq_nil_of_length_eq_zero h0
    subst this
    exact ⟨none, 0, hv, ⟨⟨by simp, fun i hi => absurd hi (by simp), fun i hi => absurd hi (by simp)⟩, (fun a ha => by cases ha), fun i hi => absurd hi (by simp)⟩, fun a ha => by cases ha⟩
  · refine ⟨some ⟨g, 0, none⟩, cap, hv, ⟨⟨by omega, fun i hi => ⟨g, 0, rfl, ?_⟩, fun i hi => (hat i hi).1⟩, fun a ha => ?_, hat⟩, fun a ha => by cases ha; exact hb⟩
    · have h2 : (cur.toList.take (ys.length * 1))[i]? = some (ys.getD i iz).val := by
        rw [ht]
        simp [List.getD, hi]
      have h3 : cur[i]? = some (ys.getD i iz).val := by
        rw [List.getElem?_take] at h2
        split at h2
        · simpa using h2
        · cases h2
      simp only [World.cell?, hh]
      simpa using h3
    · cases ha; exact (Array.getElem?_eq_some_iff.1 hh).1

theorem RowsHad.keep {A B : World} {ao : Option Addr} {rs : List IntsV} (h : RowsHad A ao rs) (hs : A.heap.size ≤ B.heap.size) (h1 : ∀ a, ao = some a → B.heap[a.block]? = A.heap[a.block]?) (h2 : ∀ i, i < rs.length → ∀ b, rowEl.blk (rs.getD i iz) = some b → B.heap[b]? = A.heap[b]?) : RowsHad B ao rs := by
  have hat : ∀ i, i < rs.length → rowEl.At (rs.getD i iz) B := fun i hi => rowEl.keep (h.2.2 i hi) hs (fun b _ hb => h2 i hi b hb)
  exact ⟨⟨h.1.1, h.1.2.1.keep (fun a ha _ => h1 a ha), fun i hi => (hat i hi).1⟩, fun a ha => Nat.lt_of_lt_of_le (h.2.1 a ha) hs, hat⟩

end Go.Scout
namespace Go.Proofs.YtlpbelhfpoilpaaGreat
open Go.RowKit Go.Scout Go.Shelf

attribute [local go_sem] Oper.semAt_some

set_option maxRecDepth 100000 in
set_option maxHeartbeats 8000000 in
theorem loop_seq (br bl gr gl : Nat) (lbr lbl : Array Value) (L R : List (List Int)) (w0 : World) (hbr : br < w0.heap.size) (hbl : bl < w0.heap.size)
    (hcr : w0.cell? ⟨br, 0, none⟩ = some (.func (.func gr) #[] lbr)) (hcl : w0.cell? ⟨bl, 0, none⟩ = some (.func (.func gl) #[] lbl))
    (hsr : Seq rowEl Tryz.prog gr lbr R w0) (hsl : Seq rowEl Tryz.prog gl lbl L w0)
    (egr : ∀ args w, (callFunc gr args).run Tryz.prog w = .ok (.enter gr args) w) (egl : ∀ args w, (callFunc gl args).run Tryz.prog w = .ok (.enter gl args) w)
    (hR : R.length ≤ 1000000) (hLl : ∀ a ∈ L, a.length ≤ 1000) (hRl : ∀ a ∈ R, a.length ≤ 1000) :
    Seq rowEl Tryz.prog 86 #[.pointer (some ⟨br, 0, none⟩), .pointer (some ⟨bl, 0, none⟩)] (joinN L R) w0 := by
  intro l J W o hW ho hJ hY h0
  have hcrW := (hW.cell (p := ⟨br, 0, none⟩) hbr).trans hcr
  have hclW := (hW.cell (p := ⟨bl, 0, none⟩) hbl).trans hcl
  have HY : Hid _ := hY
  have HO : Hid _ := ho
  have HW : Hid _ := hW
  have HJ : Hid _ := hJ
  have HR : Hid _ := hR
  have HLl : Hid _ := hLl
  have HRl : Hid _ := hRl
  have HBL : Hid _ := hbl
  have hb1 : Below W.heap.size W (W.alloc (.cells #[.func (.yield l) #[] #[]] 87)) := below_alloc _ _
  have hcr1 := (hb1.cell (p := ⟨br, 0, none⟩) (Nat.lt_of_lt_of_le hbr HW.out.size)).trans hcrW
  have hcl1 := (hb1.cell (p := ⟨bl, 0, none⟩) (Nat.lt_of_lt_of_le hbl HW.out.size)).trans hclW
  have hcy1 : (W.alloc (.cells #[.func (.yield l) #[] #[]] 87)).cell? ⟨W.heap.size, 0, none⟩ = some (.func (.yield l) #[] #[]) := by simp
  have hs1 : (W.alloc (.cells #[.func (.yield l) #[] #[]] 87)).heap.size = W.heap.size + 1 := by simp
  clear hY ho hW hJ hcr hcl hR hLl hRl hcrW hclW hbl hbr
  refine (callsIn_wide (n := 0)).1 (callsIn_of_wp_marks Tryz.func86 rfl trivial ?_ rfl)
  simp only [Tryz.ntmps86, List.size_toArray, List.length_cons, List.length_nil, Nat.reduceAdd, Nat.reduceSub, Array.replicate_succ, Array.replicate_zero, List.push_toArray, List.append_toArray, List.nil_append, List.cons_append]
  gi_wp2
  obtain ⟨w1, hw1⟩ : ∃ w1, W.alloc (.cells #[.func (.yield l) #[] #[]] 87) = w1 := ⟨_, rfl⟩
  rw [hw1] at hb1 hcr1 hcl1 hcy1 hs1
  rw [hw1]
  clear hw1
  have hb01 : Below w0.heap.size w0 w1 := HW.out.trans (hb1.mono HW.out.size)
  refine ⟨trivial, rfl, callsIn_wide.2 ((gather_any rowEl (fun _ => rfl) gr lbr R w0 w1 hb01 HR.out hsr egr).mono ?_)⟩
  rintro e w2 ⟨v, ys, og, rfl, hys, hG⟩
  have hyl : ys.length ≤ 1000000 := by
    have := congrArg List.length hys
    rw [List.length_map] at this
    rw [this]; exact HR.out
  obtain ⟨iad, icap, rfl, hhad, hadb⟩ := hG.had hyl
  have hb2 := hG.below
  have hs2 := hb2.size
  have hcl2 := cell_below hb2 hcl1
  have hcy2 := cell_below hb2 hcy1
  have hborn := hG.born
  have HG : Hid _ := hG
  have HYS : Hid _ := hys
  have HH : Hid _ := hhad
  have HAB : Hid _ := hadb
  have HBN : Hid _ := hborn
  have hcl3 := cell_below (below_alloc w2 (.cells #[.slice iad ys.length icap] 29)) hcl2
  clear hG hys hhad hadb hborn
  gi_wp2
  have hk23 : ∀ s, Kept s w2 (w2.alloc (.cells #[.slice iad ys.length icap] 29)) := fun s => Kept.alloc _ _
  have hs3 : (w2.alloc (.cells #[.slice iad ys.length icap] 29)).heap.size = w2.heap.size + 1 := by simp
  have hci3 : (w2.alloc (.cells #[.slice iad ys.length icap] 29)).cell? ⟨w2.heap.size, 0, none⟩ = some (.slice iad ys.length icap) := by simp
  have hcy3 := cell_below (below_alloc w2 (.cells #[.slice iad ys.length icap] 29)) hcy2
  obtain ⟨w3, hw3⟩ : ∃ w3, w2.alloc (.cells #[.slice iad ys.length icap] 29) = w3 := ⟨_, rfl⟩
  rw [hw3] at hk23 hs3 hci3 hcy3 hcl3
  rw [hw3]
  clear hw3
  have hkW3 : ∀ s, Kept s W w3 := fun s => ((Kept.of_below hb1 (fun b hb _ => hb)).trans (Kept.of_below hb2 (fun b hb _ => hb))).trans (hk23 s)
  have hb03 : Below w0.heap.size w0 w3 := HW.out.trans ((hkW3 (fun _ => True)).below HW.out.size (fun _ _ => trivial))
  have hH3 : RowsHad w3 iad ys := RowsHad.keep HH.out (hk23 (fun _ => True)).size (fun a ha => (hk23 (fun _ => True)).block _ (HH.out.2.1 a ha) trivial) (fun i hi b hb => (hk23 (fun _ => True)).block _ (rowEl.inn (HH.out.2.2 i hi) hb) trivial)
  have HI3 : Hid (∀ a, iad = some a → W.heap.size ≤ a.block ∧ a.block < w3.heap.size) := fun a ha => ⟨by have := HAB.out a ha; omega, by have := HH.out.2.1 a ha; omega⟩
  have HR3 : Hid (∀ i, i < ys.length → ∀ b, rowEl.blk (ys.getD i iz) = some b → (b < w0.heap.size ∨ W.heap.size ≤ b) ∧ b < w3.heap.size) := fun i hi b hb => by
    have hm : ys.getD i iz ∈ ys := by simp [List.getD, hi]
    exact ⟨(HBN.out _ hm b hb).imp id (by omega), by have := rowEl.inn (HH.out.2.2 i hi) hb; omega⟩
  have HH3 : Hid _ := hH3
  have HKW3 : Hid _ := hkW3
  have HS : Hid (w3.heap.size = w2.heap.size + 1 ∧ w1.heap.size = W.heap.size + 1 ∧ w1.heap.size ≤ w2.heap.size) := ⟨hs3, hs1, hs2⟩
  clear hH3 hkW3 hk23 hs3 hs1 hs2 hcl1 hcl2 hcy1 hcy2 hb1 hb2 hcr1 hcl3
  refine wp_range rowEl (gf := gl) (lb := lbl) rfl egl hsl hb03 rfl
    (fun pre o1 W' => ∃ zs, zs.map rowEl.key = joinN (pre.map rowEl.key) R ∧ J zs o1 W' ∧ Kept (fun b => ¬ o b) w3 W' ∧ ∀ b, o1 b → o b ∨ (w3.heap.size ≤ b ∧ b < W'.heap.size))
    o ?_ ?_ ?_ (fun x => { tmps := #[.func (.yield l) #[] #[], .pointer (some ⟨br, 0, none⟩), .pointer (some ⟨bl, 0, none⟩), .pointer (some ⟨W.heap.size, 0, none⟩), .pointer (some ⟨w2.heap.size, 0, none⟩), x.val, .func (.func gr) #[] lbr, .slice iad ys.length icap, .func (.func gl) #[] lbl, x.val, undef, undef, undef, undef, undef], defers := [] }) ?assign ?body ?done
  · intro b hb
    exact ⟨(HO.out b hb).1, by have := (HO.out b hb).2; have := (HKW3.out (fun _ => True)).size; omega⟩
  · rintro pre o1 A B ⟨zs, hz, hj, hk, hg⟩ hkk
    have h1 := (HKW3.out (fun _ => True)).size
    exact ⟨zs, hz, HJ.out _ _ _ _ hj (hkk.mono fun b _ h => h.imp id (by omega)), hk.trans' hkk (fun b hb _ => .inr hb), fun b h => (hg b h).imp id (fun h => ⟨h.1, by have := hkk.size; omega⟩)⟩
  · exact ⟨[], rfl, HJ.out _ _ _ _ h0 (HKW3.out _), Kept.refl _ _, fun b h => .inl h⟩
  case assign =>
    intro l x W K hK
    gi_wp2
    exact hK
  case body =>
    rintro l2 pre x o1 W2 ⟨zs, hz, hj, hk, hg⟩ hpre hx hoff hsz
    have h3 := (HKW3.out (fun _ => True)).size
    have hkz := hk.size
    have hS := HS.out
    have hnW : ∀ b, W.heap.size ≤ b → ¬ o b := fun b hb h => by have := (HO.out b h).2; omega
    have hn0 : ∀ b, b < w0.heap.size → ¬ o b := fun b hb h => by have := (HO.out b h).1; omega
    have hn1 : ∀ b, b < w3.heap.size → ¬ o b → ¬ o1 b := fun b hb h h' => by
      rcases hg b h' with h' | h'
      · exact h h'
      · omega
    have hci : W2.cell? ⟨w2.heap.size, 0, none⟩ = some (.slice iad ys.length icap) := cell_keep hci3 hk (hnW _ (by show W.heap.size ≤ w2.heap.size; omega))
    have hcy : W2.cell? ⟨W.heap.size, 0, none⟩ = some (.func (.yield l) #[] #[]) := cell_keep hcy3 hk (hnW _ (Nat.le_refl _))
    have hrb : ∀ i, i < ys.length → ∀ b, rowEl.blk (ys.getD i iz) = some b → ¬ o b := fun i hi b hb => by
      rcases (HR3.out i hi b hb).1 with h | h
      · exact hn0 b h
      · exact hnW b h
    have hH : RowsHad W2 iad ys := RowsHad.keep HH3.out hkz (fun a ha => hk.block _ (HI3.out a ha).2 (hnW _ (HI3.out a ha).1)) (fun i hi b hb => hk.block _ (HR3.out i hi b hb).2 (hrb i hi b hb))
    have hpq : zs.map rowEl.key ++ ys.map (fun r => x.xs ++ r.xs) <+: joinN L R := by
      have e1 : ys.map (fun r => x.xs ++ r.xs) = R.map (fun b => x.xs ++ b) := by rw [← HYS.out, List.map_map]; rfl
      rw [e1, hz, ← joinN_snoc]
      have e2 : pre.map rowEl.key ++ [x.xs] = (pre ++ [x]).map rowEl.key := by rw [List.map_append]; rfl
      rw [e2]
      exact joinN_pre hpre
    have hp := pair_any l W.heap.size J (joinN L R) w0.heap.size x iad icap ys zs o1 W2 HJ.out HY.out (by omega) hj hpq hx (fun b hb => (hoff b hb).1) (HLl.out _ (mem_of_pre hpre)) hH
      (fun a ha => hn1 _ (HI3.out a ha).2 (hnW _ (HI3.out a ha).1))
      (fun i hi a ha => hn1 _ (HR3.out i hi a.block (by show Option.map _ _ = _; rw [ha]; rfl)).2 (hrb i hi a.block (by show Option.map _ _ = _; rw [ha]; rfl)))
      (fun i hi => HRl.out _ (by rw [← HYS.out]; exact List.mem_map.2 ⟨ys.getD i iz, by simp [List.getD, hi], rfl⟩))
      (fun b h => by
        rcases hg b h with h | h
        · have := (HO.out b h).2; omega
        · exact h.2)
    have HZ : Hid _ := hz
    have HK : Hid _ := hk
    have HGG : Hid _ := hg
    have HX : Hid _ := hx
    clear hz hk hg hj hx hoff hpre hH hrb hn1 hnW hn0 hpq
    obtain ⟨xad, xcap, xxs⟩ := x
    unfold IntsV.val at hp ⊢
    simp only at hp ⊢
    gi_wp2
    refine ⟨trivial, rfl, CallsIn.inRound l2 (callsIn_wide.2 (hp.mono ?_))⟩
    rintro e W4 ⟨rfl, us, o2, hus, hj4, hk4, hg4⟩
    gi_wp2
    refine ⟨o2, ⟨zs ++ us, ?_, hj4, HK.out.trans' hk4 ?_, ?_⟩, hk4, ?_⟩
    · rw [List.map_append, List.map_append, HZ.out, hus]
      show _ = joinN (pre.map rowEl.key ++ [xxs]) R
      rw [joinN_snoc, ← HYS.out, List.map_map]
      rfl
    · intro b hb h h'
      rcases HGG.out b h' with h' | h'
      · exact h h'
      · omega
    · intro b hb
      have := hk4.size
      rcases hg4 b hb with h | h
      · exact (HGG.out b h).imp id (fun h => ⟨h.1, by omega⟩)
      · exact .inr ⟨by omega, h.2⟩
    · intro b hb
      exact (hg4 b hb).imp id .inl
  case done =>
    rintro us o' W2 hus ⟨zs, hz, hj, hk, hg⟩ hk2 hg2 hD
    have h3 := (HKW3.out (fun _ => True)).size
    gi_wp2
    have hnD : ¬ o' w3.heap.size := fun h => by
      rcases hg2 _ h with h | h
      · have := (HO.out _ h).2; omega
      · omega
    have hkD : Kept (fun b => b ≠ w3.heap.size) W2 (W2.putObj w3.heap.size (.deferred none)) := Kept.putObj _ _ (fun h => h rfl)
    refine ⟨by simp, .inl ⟨_, _, rfl, run_takeDeferred hD, ?_⟩⟩
    refine ⟨_, results_none rfl _ _ _, ⟨_, rfl⟩, zs, o', ?_, HJ.out _ _ _ _ hj (hkD.mono fun b _ h => ?_), ((HKW3.out _).trans' hk (fun b _ h => h)).trans' hkD (fun b hb _ => by omega), fun b h => (hg b h).imp id (fun h => ⟨by omega, by rw [World.putObj_size]; omega⟩)⟩
    · rw [hz, hus]
    · rcases h with h | h
      · intro e; exact hnD (e ▸ h)
      · omega

end Go.Proofs.YtlpbelhfpoilpaaGreat

namespace Go.Scout
open Go.RowKit

/-- A region that draws its order, whose operations read and call what only makes memory: one walk of the text's order serves, every operation quiet in the worlds that keep what is there. -/
theorem wp_region_below {P : Program} {id : Nat} {Q : Exit → Act → World → Prop} {a : Act} {w : World} {l : List Oper} (hm : P.follows .mixedOrders = true) (hB : Region.lexB .any l.toArray = true)
    (h : wpQuiet P l.toArray (fun x => Below w.heap.size w x) (fun a' => ∀ x, Below w.heap.size w x → Q .normal a' x) l a) : (Code.region id l.toArray true).wp P Q a w :=
  wp_region_quiet (C := fun x => Below w.heap.size w x) hm hB (Below.refl _ _).drew (by simpa using h)

theorem Calls.within {P : Program} {f : FuncId} {args : Array Value} {w x : World} {v : Value} (hx : Below w.heap.size w x)
    (h : Calls P f args x fun e w' => e = .returned v ∧ Below x.heap.size x w') : Calls P f args x fun e w'' => e = .returned v ∧ Below w.heap.size w w'' :=
  h.mono fun _ _ ⟨he, hb⟩ => ⟨he, Below.step hx hb⟩

theorem Calls.within_same {P : Program} {f : FuncId} {args : Array Value} {w x : World} {v : Value} (hx : Below w.heap.size w x)
    (h : Calls P f args x fun e w' => e = .returned v ∧ w' = x) : Calls P f args x fun e w'' => e = .returned v ∧ Below w.heap.size w w'' :=
  h.mono fun _ _ ⟨he, hb⟩ => ⟨he, by rw [hb]; exact hx⟩

theorem Calls.drawn {P : Program} {f : FuncId} {args : Array Value} {w : World} {v : Value}
    (h : Calls P f args w fun e w' => e = .returned v ∧ ∃ n, w' = w.drewN n) : Calls P f args w fun e w' => e = .returned v ∧ Below w.heap.size w w' :=
  h.mono fun _ _ ⟨he, n, hn⟩ => ⟨he, by rw [hn]; exact below_drewN (Below.refl _ _) n⟩

section
variable {N : Int} {group : Bool} {keys sums sel ord : List Int}

theorem rest_sel (h : ¬ allB sel N = true) : restB N group keys sums sel ord = false := by
  have : allB sel N = false := by simpa using h
  simp [restB, this]
theorem rest_keys (h : ¬ allB keys N = true) : restB N group keys sums sel ord = false := by
  have : allB keys N = false := by simpa using h
  simp [restB, this]
theorem rest_sums (h : ¬ allB sums N = true) : restB N group keys sums sel ord = false := by
  have : allB sums N = false := by simpa using h
  simp [restB, this]
theorem rest_ord (h : ¬ allB ord (outN group keys sums sel) = true) : restB N group keys sums sel ord = false := by
  have : allB ord (outN group keys sums sel) = false := by simpa using h
  simp [restB, this]
theorem rest_ak (h : ¬ apartB keys = true) : restB N group keys sums sel ord = false := by
  have : apartB keys = false := by simpa using h
  simp [restB, this]
theorem rest_ao (h : ¬ apartB ord = true) : restB N group keys sums sel ord = false := by
  have : apartB ord = false := by simpa using h
  simp [restB, this]
theorem eq0_len : ((sel.length : Int) == 0) = decide (sel.length = 0) := by
  rw [Bool.eq_iff_iff]
  simp
theorem rest_grp (h : ¬ group = ((sel.length : Int) == 0)) : restB N group keys sums sel ord = false := by
  rw [eq0_len] at h
  have : (group == decide (sel.length = 0)) = false := by simpa using h
  unfold restB
  rw [this, Bool.and_false, Bool.false_and]
theorem rest_ks (hg : group = ((sel.length : Int) == 0)) (h : (!((sel.length : Int) == 0)) = true ∧ 0 < (keys.length : Int) + sums.length) : restB N group keys sums sel ord = false := by
  have h1 : group = false := by rw [hg]; simpa using h.1
  have h2 : decide (keys.length + sums.length = 0) = false := decide_eq_false (by omega)
  unfold restB
  rw [h1, h2, Bool.or_false, Bool.and_false]
theorem rest_ok (a1 : allB sel N = true) (a2 : allB keys N = true) (a3 : allB sums N = true) (a4 : allB ord (outN group keys sums sel) = true) (a5 : apartB keys = true) (a6 : apartB ord = true)
    (hg : group = ((sel.length : Int) == 0)) (h : group = true ∨ keys.length + sums.length = 0) : restB N group keys sums sel ord = true := by
  rw [eq0_len] at hg
  unfold restB
  rw [a1, a2, a3, a4, a5, a6, ← hg]
  rcases h with h | h
  · simp [h]
  · rw [decide_eq_true h, Bool.or_true]; simp
theorem rest_ok1 (a1 : allB sel N = true) (a2 : allB keys N = true) (a3 : allB sums N = true) (a4 : allB ord (outN group keys sums sel) = true) (a5 : apartB keys = true) (a6 : apartB ord = true)
    (hg : group = ((sel.length : Int) == 0)) (h : sel = []) : restB N group keys sums sel ord = true :=
  rest_ok a1 a2 a3 a4 a5 a6 hg (.inl (by rw [hg, h]; rfl))
theorem rest_ok2 (a1 : allB sel N = true) (a2 : allB keys N = true) (a3 : allB sums N = true) (a4 : allB ord (outN group keys sums sel) = true) (a5 : apartB keys = true) (a6 : apartB ord = true)
    (hg : group = ((sel.length : Int) == 0)) (h : (!((sel.length : Int) == 0)) = false ∨ (keys.length : Int) + sums.length ≤ 0) : restB N group keys sums sel ord = true :=
  rest_ok a1 a2 a3 a4 a5 a6 hg (by
    rcases h with h | h
    · left; rw [hg]; simpa using h
    · right; omega)
end

/-- What IndexFunc hands back: not below 0 just where one is found. -/
def foundAt (r : Int) (b : Bool) : Prop := -1 ≤ r ∧ decide (0 ≤ r) = b

theorem any_at {α : Type} {p : α → Bool} {xs : List α} {k : Nat} {z : α} (hk : k < xs.length) (h : p (xs.getD k z) = true) : xs.any p = true := by
  rw [List.any_eq_true]
  exact ⟨xs[k], List.getElem_mem hk, by simpa [List.getD, hk] using h⟩

theorem any_none {α : Type} {p : α → Bool} {xs : List α} {z : α} (h : ∀ k, k < xs.length → p (xs.getD k z) = false) : xs.any p = false := by
  rw [List.any_eq_false]
  intro x hx
  obtain ⟨k, hk, rfl⟩ := List.getElem_of_mem hx
  have := h k hk
  simpa [List.getD, hk] using this

theorem catB_any {ts : List TableD} (h1 : ¬ ts.length < 1) (h8 : ¬ 8 < ts.length) : (!(ts.any fun t => !tableB t)) = catB ts := by
  unfold catB
  rw [decide_eq_true (show 1 ≤ ts.length by omega), decide_eq_true (show ts.length ≤ 8 by omega), List.not_any_eq_all_not]
  simp

def inB (x n : Int) : Bool := decide (0 ≤ x) && decide (x < n)

theorem allB_any (xs : List Int) (n : Int) : (!(xs.any fun x => !inB x n)) = allB xs n := by
  unfold allB inB
  rw [List.not_any_eq_all_not]
  simp

theorem wide_any (ls : List ClauseV) : (ls.any fun c => decide (3 < c.cs.length)) = wideB ls ls.length := by
  unfold wideB
  rw [List.take_length]

theorem QueryV.full_eq (q : QueryV) : fullB q.src.xs q.whs q.keys.xs q.sums.xs q.sel.xs q.ord.xs =
    (decide (5 < q.src.xs.length ∨ 8 < q.wh.length ∨ 8 < q.sel.xs.length ∨ 4 < q.keys.xs.length ∨ 4 < q.sums.xs.length ∨ 4 < q.ord.xs.length) || wideB q.wh q.wh.length) := by
  unfold fullB
  rw [wideB_all]
  simp [QueryV.whs]

theorem condB_in {c : CondD} {n : Int} (h : inB c.left n = false) : false = condB c n := by
  refine (Bool.eq_false_iff.2 ?_).symm
  intro h'
  simp only [condB, Bool.and_eq_true, decide_eq_true_eq] at h'
  simp only [inB, Bool.and_eq_false_iff, decide_eq_false_iff_not] at h
  omega
theorem condB_eqless_const {c : CondD} {n : Int} (h : inB c.left n = true) (ho : c.op = 0 ∨ c.op = 1) (hc : c.const = true) : (decide (-1000 ≤ c.right) && decide (c.right ≤ 1000)) = condB c n := by
  simp only [inB, Bool.and_eq_true, decide_eq_true_eq] at h
  unfold condB
  rw [if_neg (by omega), if_pos hc, decide_eq_true h.1, decide_eq_true h.2, decide_eq_true (show 0 ≤ c.op by omega), decide_eq_true (show c.op ≤ 2 by omega)]
  simp
theorem condB_eqless_col {c : CondD} {n : Int} (h : inB c.left n = true) (ho : c.op = 0 ∨ c.op = 1) (hc : c.const = false) : inB c.right n = condB c n := by
  simp only [inB, Bool.and_eq_true, decide_eq_true_eq] at h
  unfold condB
  rw [if_neg (by omega), if_neg (by simp [hc]), decide_eq_true h.1, decide_eq_true h.2, decide_eq_true (show 0 ≤ c.op by omega), decide_eq_true (show c.op ≤ 2 by omega)]
  simp only [inB, Bool.and_self, Bool.true_and]
  congr 1
  exact decide_eq_decide.2 (by omega)
theorem condB_isnil {c : CondD} {n : Int} (h : inB c.left n = true) (ho : c.op = 2) : (!c.const && decide (c.right = 0)) = condB c n := by
  simp only [inB, Bool.and_eq_true, decide_eq_true_eq] at h
  unfold condB
  rw [if_pos ho, decide_eq_true h.1, decide_eq_true h.2, decide_eq_true (show 0 ≤ c.op by omega), decide_eq_true (show c.op ≤ 2 by omega)]
  simp
theorem condB_other {c : CondD} {n : Int} (h0 : ¬ c.op = 0) (h1 : ¬ c.op = 1) (h2 : ¬ c.op = 2) : false = condB c n := by
  refine (Bool.eq_false_iff.2 ?_).symm
  intro h'
  simp only [condB, Bool.and_eq_true, decide_eq_true_eq] at h'
  omega

end Go.Scout

