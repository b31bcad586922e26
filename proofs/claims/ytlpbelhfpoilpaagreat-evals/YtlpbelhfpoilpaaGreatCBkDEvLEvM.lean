import Derived.Deep.RegionHeld3
import Derived.Test.YtlpbelhfpoilpaaGreatCRfI
import Derived.Test.YtlpbelhfpoilpaaGreatCGvAGvBSameBSameC
import Derived.Test.YtlpbelhfpoilpaaGreatCGvD
import Derived.Test.YtlpbelhfpoilpaaGreatCBkABkBBkC
set_option linter.all false
namespace Go.Proofs.YtlpbelhfpoilpaaGreat
open Go.RowKit Go.Scout

set_option maxRecDepth 20000 in
set_option maxHeartbeats 16000000 in
theorem rowsB_any (bb n : Nat) (es : List IntsV) (ms : List Int) (vi vm : Value) (ao : Option Addr) (cap lo : Nat) (ys : List IntsV) (W : World) (hB : BookAt W bb 32 23 3 n es ms vi vm)
    (hown : ∀ b, BookAt.own bb es vi vm b → b < lo) (hlo : lo ≤ W.heap.size) (hcs : CellsAt W ao ys.length (fun i => (ys.getD i iz).val)) (hlen : ys.length ≤ 50000) (hat : ∀ y ∈ ys, (ownEl 3).At y W) (hnew : ∀ y ∈ ys, ∀ b, rowEl.blk y = some b → lo ≤ b)
    (hap : ys.Pairwise fun y z => ∀ b, rowEl.blk y = some b → rowEl.blk z ≠ some b) (hao : ∀ a, ao = some a → lo ≤ a.block ∧ ∀ y ∈ ys, rowEl.blk y ≠ some a.block) (hn : n ≤ 30000) (hes : es.length ≤ 200000) (hll : ∀ y ∈ ys, y.xs.length ≤ 1000) :
    Calls Tryz.prog 11 #[.pointer (some ⟨bb, 0, none⟩), .slice ao ys.length cap] W fun e W' => e = .returned (.tuple #[]) ∧ ∃ es' ms' vi' vm', BookAt W' bb 32 23 3 (n + ys.length) es' ms' vi' vm' ∧ es'.length = es.length + 4 * ys.length ∧
      Kept (fun b => b < lo ∧ ¬ BookAt.own bb es vi vm b) W W' ∧ ∀ b, BookAt.own bb es' vi' vm' b → BookAt.own bb es vi vm b ∨ lo ≤ b := by
  have HB : Hid _ := hB
  have HO : Hid _ := hown
  have HC : Hid _ := hcs
  have HA : Hid _ := hat
  have HN : Hid _ := hnew
  have HP : Hid _ := hap
  have HAO : Hid _ := hao
  have HL : Hid _ := hll
  have HLO : Hid _ := hlo
  clear hB hown hcs hat hnew hap hao hll hlo
  go_enter Tryz.func11, Tryz.ntmps11
  go_wp2
  go_loopw [4] (fun iv wr => ∃ (i : Nat) (es' : List IntsV) (ms' : List Int) (vi' vm' : Value), i ≤ ys.length ∧ iv = .int .i64 i ∧ es'.length = es.length + 4 * i ∧ Hid (BookAt wr bb 32 23 3 (n + i) es' ms' vi' vm') ∧
    Hid (∀ b, BookAt.own bb es' vi' vm' b → BookAt.own bb es vi vm b ∨ (∃ y ∈ ys.take i, rowEl.blk y = some b) ∨ W.heap.size ≤ b) ∧ Hid (Kept (fun b => ¬ BookAt.own bb es vi vm b ∧ ∀ y ∈ ys.take i, rowEl.blk y ≠ some b) W wr)) (fun iv _ => ys.length - (intOf iv).toNat)
  case atStart => exact ⟨0, es, ms, vi, vm, Nat.zero_le _, rfl, rfl, HB.out, fun b hb => .inl hb, Kept.refl _ _⟩
  case round =>
    obtain ⟨i, es', ms', vi', vm', hil, rfl, hel, HB', HO', HK⟩ := hrel
    by_cases hit : i < ys.length
    · obtain ⟨b, off, rfl, hcs⟩ := CellsAt.get HC.out hit
      have hbW : b < W.heap.size := cell_lt (p := ⟨b, off + i, none⟩) (hcs i hit)
      have hsub : ∀ y ∈ ys.take i, y ∈ ys := fun y hy => List.mem_of_mem_take hy
      have hbn : ¬ BookAt.own bb es vi vm b := fun h => by have := HO.out b h; have := (HAO.out _ rfl).1; simp at this; omega
      have hbk : wr.heap[b]? = W.heap[b]? := HK.out.block b hbW ⟨hbn, fun y hy => (HAO.out _ rfl).2 y (hsub y hy)⟩
      have hci : wr.cell? ⟨b, off + i, none⟩ = some (ys.getD i iz).val := (World.cell?_of_block (a := ⟨b, off + i, none⟩) hbk).trans (hcs i hit)
      have hym : ys.getD i iz ∈ ys := getD_memR hit
      have hfree : ∀ b, rowEl.blk (ys.getD i iz) = some b → ¬ BookAt.own bb es vi vm b ∧ ∀ y ∈ ys.take i, rowEl.blk y ≠ some b := fun b hb => by
        refine ⟨fun h => by have := HO.out b h; have := HN.out _ hym b hb; omega, fun y hy e => ?_⟩
        have e0 : ys = ys.take i ++ ys.getD i iz :: ys.drop (i + 1) := by
          have e1 : ys.getD i iz = ys[i] := by simp [List.getD, hit]
          rw [e1, ← List.drop_eq_getElem_cons hit, List.take_append_drop]
        have hp := HP.out
        rw [e0, List.pairwise_append] at hp
        exact hp.2.2 y hy _ (by simp) b e hb
      have hya : (ownEl 3).At (ys.getD i iz) wr := (ownEl 3).keep (HA.out _ hym) HK.out.size (fun b hb' hb => HK.out.block b hb' (hfree b hb))
      have hyl : ∀ b, rowEl.blk (ys.getD i iz) = some b → b < W.heap.size := fun b hb => rowEl.inn (HA.out _ hym).1 hb
      have hno : ∀ b, rowEl.blk (ys.getD i iz) = some b → ¬ BookAt.own bb es' vi' vm' b := fun b hb h => by
        rcases HO'.out b h with h | ⟨y, hy, h⟩ | h
        · exact (hfree b hb).1 h
        · exact (hfree b hb).2 y hy h
        · have := hyl b hb; omega
      have hll := HL.out _ hym
      have hcall := keepB_any bb (n + i) es' ms' vi' vm' (ys.getD i iz) wr HB'.out hya (fun b hb => ⟨fun e => hno b hb (.inl e), fun e => hno b hb (.inr (.inr (.inl e))), fun e he h => hno b hb (.inr (.inr (.inr ⟨e, he, h⟩)))⟩) (by omega) (by omega) hll
      have hsn : ys.take i ++ [ys.getD i iz] = ys.take (i + 1) := take_snoc ys iz hit
      have HFN : Hid (∀ (W' : World) (es2 : List IntsV) (vi2 vm2 : Value), Kept (fun b => ¬ Chg bb vi' vm' (ys.getD i iz) b) wr W' → (∀ b, BookAt.own bb es2 vi2 vm2 b → BookAt.own bb es' vi' vm' b ∨ Chg bb vi' vm' (ys.getD i iz) b ∨ wr.heap.size ≤ b) →
          (∀ b, BookAt.own bb es2 vi2 vm2 b → BookAt.own bb es vi vm b ∨ (∃ y ∈ ys.take (i + 1), rowEl.blk y = some b) ∨ W.heap.size ≤ b) ∧ Kept (fun b => ¬ BookAt.own bb es vi vm b ∧ ∀ y ∈ ys.take (i + 1), rowEl.blk y ≠ some b) W W') := by
        intro W' es2 vi2 vm2 hk2 ho2
        have hchg : ∀ b, Chg bb vi' vm' (ys.getD i iz) b → BookAt.own bb es vi vm b ∨ (∃ y ∈ ys.take (i + 1), rowEl.blk y = some b) ∨ W.heap.size ≤ b := fun b hb => by
          have hup : (BookAt.own bb es vi vm b ∨ (∃ y ∈ ys.take i, rowEl.blk y = some b) ∨ W.heap.size ≤ b) → BookAt.own bb es vi vm b ∨ (∃ y ∈ ys.take (i + 1), rowEl.blk y = some b) ∨ W.heap.size ≤ b := fun h => by
            rcases h with h | ⟨y, hy, h⟩ | h
            · exact .inl h
            · exact .inr (.inl ⟨y, by rw [← hsn]; exact List.mem_append.2 (.inl hy), h⟩)
            · exact .inr (.inr h)
          rcases hb with hb | hb | hb | hb
          · exact hup (HO'.out b (.inl hb))
          · exact hup (HO'.out b (.inr (.inl hb)))
          · exact hup (HO'.out b (.inr (.inr (.inl hb))))
          · exact .inr (.inl ⟨_, by rw [← hsn]; simp, hb⟩)
        refine ⟨fun b hb => ?_, ?_⟩
        · rcases ho2 b hb with h | h | h
          · rcases HO'.out b h with h | ⟨y, hy, h⟩ | h
            · exact .inl h
            · exact .inr (.inl ⟨y, by rw [← hsn]; exact List.mem_append.2 (.inl hy), h⟩)
            · exact .inr (.inr h)
          · exact hchg b h
          · exact .inr (.inr (by have := HK.out.size; omega))
        · refine Kept.trans' (HK.out.mono fun b _ h => ⟨h.1, fun y hy => h.2 y (by rw [← hsn]; exact List.mem_append.2 (.inl hy))⟩) hk2 (fun b hb h h' => ?_)
          rcases hchg b h' with h2 | ⟨y, hy, h2⟩ | h2
          · exact h.1 h2
          · exact h.2 y hy h2
          · omega
      clear hbn hbk hfree hya hyl hno hsn hym hsub hcs
      generalize ys.getD i iz = y at *
      obtain ⟨yad, ycap, yxs⟩ := y
      unfold IntsV.val at hci hcall
      simp only at hci hcall
      go_wp2_with fail
      refine hcall.mono ?_
      rintro e W' ⟨rfl, es2, ms2, vi2, vm2, hB2, hl2, hk2, ho2⟩
      obtain ⟨f1, f2⟩ := HFN.out W' es2 vi2 vm2 hk2 ho2
      have HB2 : Hid _ := hB2
      have HF1 : Hid _ := f1
      have HF2 : Hid _ := f2
      clear hcall hB2 hk2 ho2 f1 f2 HFN hci
      go_wp2
      go_roundw
      case rel => exact ⟨i + 1, es2, ms2, vi2, vm2, by omega, by go_num, by omega, by rw [← Nat.add_assoc]; exact HB2.out, HF1.out, HF2.out⟩
      case measure => simp [intOf]; omega
    · obtain rfl : i = ys.length := by omega
      have HF : Hid (Kept (fun b => b < lo ∧ ¬ BookAt.own bb es vi vm b) W wr) := HK.out.mono fun b hb h => ⟨h.2, fun y hy e => by
        rw [List.take_length] at hy
        have := HN.out y hy b e
        have := h.1
        omega⟩
      have HFO : Hid (∀ b, BookAt.own bb es' vi' vm' b → BookAt.own bb es vi vm b ∨ lo ≤ b) := fun b hb => by
        rcases HO'.out b hb with h | ⟨y, hy, h⟩ | h
        · exact .inl h
        · exact .inr (HN.out y (List.mem_of_mem_take hy) b h)
        · exact .inr (by have := HLO.out; omega)
      clear HK HO'
      go_wp2
      go_end0
      exact ⟨rfl, es', ms', vi', vm', HB'.out, hel, HF.out, HFO.out⟩

set_option maxRecDepth 20000 in
set_option maxHeartbeats 16000000 in
theorem holdsB_any (bb n : Nat) (es : List IntsV) (ms : List Int) (vi vm : Value) (W : World) (hB : BookAt W bb 32 23 3 n es ms vi vm) (hes : es.length ≤ 1000000) :
    Calls Tryz.prog 5 #[.pointer (some ⟨bb, 0, none⟩)] W fun e W' => e = .returned (.bool true) ∧ Below W.heap.size W W' := by
  obtain ⟨io, ic, hvi, hic⟩ : ∃ io ic, vi = .slice io es.length ic ∧ CellsAt W io es.length (fun k => (es.getD k iz).val) := by
    rcases own_news hB.ints with ⟨h1, h2⟩ | ⟨g, c, h1, _, _, h4⟩
    · have : es = [] := List.map_eq_nil_iff.1 h2
      subst this
      exact ⟨none, 0, h1, fun i hi => absurd hi (by simp)⟩
    · refine ⟨some ⟨g, 0, none⟩, c, h1, fun k hk => ⟨g, 0, rfl, ?_⟩⟩
      have := h4 k (es.getD k iz).val (by rw [List.getElem?_map]; simp [List.getD, hk])
      rw [addr_add] at this
      exact this
  obtain ⟨mo, mc, hvm, hmc⟩ : ∃ mo mc, vm = .slice mo ms.length mc ∧ CellsAt W mo ms.length (fun k => .int .i64 (ms.getD k 0)) := by
    rcases own_news hB.marks with ⟨h1, h2⟩ | ⟨g, c, h1, _, _, h4⟩
    · have : ms = [] := List.map_eq_nil_iff.1 h2
      subst this
      exact ⟨none, 0, h1, fun i hi => absurd hi (by simp)⟩
    · refine ⟨some ⟨g, 0, none⟩, c, h1, fun k hk => ⟨g, 0, rfl, ?_⟩⟩
      have := h4 k (.int .i64 (ms.getD k 0)) (by rw [List.getElem?_map]; simp [List.getD, hk])
      rw [addr_add] at this
      exact this
  subst hvi hvm
  have g1 : W.cell? ⟨bb, 1, none⟩ = some (.slice io es.length ic) := hB.cell.cell 1
  have g2 : W.cell? ⟨bb, 2, none⟩ = some (.slice mo ms.length mc) := hB.cell.cell 2
  have g3 : W.cell? ⟨bb, 3, none⟩ = some (.slice none 0 0) := hB.cell.cell 3
  have hml := hB.len
  have HE : Hid _ := hB.ent
  have HI : Hid _ := hic
  have HM : Hid _ := hmc
  have HML : Hid _ := hml
  clear hB hic hmc hml
  go_enter Tryz.func5, Tryz.ntmps5
  go_wp2
  go_loopw [3] (fun kv wr => ∃ k : Nat, k ≤ es.length ∧ kv = .int .i64 k ∧ Below W.heap.size W wr) (fun kv _ => es.length - (intOf kv).toNat)
  case atStart => exact ⟨0, Nat.zero_le _, rfl, Below.refl _ _⟩
  case round =>
    obtain ⟨k, hk, rfl, hbr⟩ := hrel
    have m1 := cell_below hbr g1
    by_cases hkt : k < es.length
    · obtain ⟨ib, io', rfl, hic⟩ := CellsAt.get HI.out hkt
      obtain ⟨mb, mo', rfl, hmc⟩ := CellsAt.get HM.out (show k < ms.length by have := HML.out; omega)
      have hck := hic k hkt
      have hmk := hmc k (by have := HML.out; omega)
      obtain ⟨hat, hall⟩ := HE.out k hkt
      have hkm : k < ms.length := by have := HML.out; omega
      have hmsl : ms.length ≤ 1000000 := by have := HML.out; omega
      generalize es.getD k iz = e at *
      generalize ms.getD k 0 = mk at *
      obtain ⟨ead, ecap, exs⟩ := e
      unfold IntsV.val at hck
      simp only at hck hall
      have hat' : IntsAt W ead exs := hat
      have hxl := hat'.1
      have HEX : Hid _ := hat'
      have HAL : Hid _ := hall
      clear hic hmc hat hat' hall
      have hkw := hbr
      go_wp2
      clear m1 hbr
      go_loopw [4] (fun iv wr => ∃ i : Nat, i ≤ exs.length ∧ iv = .int .i64 i ∧ Below W.heap.size W wr) (fun iv _ => exs.length - (intOf iv).toNat)
      case atStart => exact ⟨0, Nat.zero_le _, rfl, hkw⟩
      case round =>
        clear hkw
        obtain ⟨i, hi, rfl, hbr⟩ := hrel
        have m1 := cell_below hbr g1
        have m2 := cell_below hbr g2
        have mck := cell_below hbr hck
        have mmk := cell_below hbr hmk
        by_cases hit : i < exs.length
        · obtain ⟨xb, xo, rfl, hxc⟩ := IntsAt.get HEX.out hit
          have hxi := cell_below hbr (hxc i hit)
          have hxm : exs.getD i 0 = mk := HAL.out _ (getD_memR hit)
          rw [hxm] at hxi
          have hne : (mk != mk) = false := by simp
          clear hxc hxm
          go_wp2
          go_region
          go_wp2
          go_roundw
          case rel => exact ⟨i + 1, by omega, by go_num, hbr.drew⟩
          case measure => simp [intOf]; omega
        · go_wp2
          go_roundw
          case rel => exact ⟨k + 1, by omega, by go_num, hbr⟩
          case measure => simp [intOf]; omega
    · have m3 := cell_below hbr g3
      go_wp2
      go_loopw [5] (fun kv wr => kv = .int .i64 0 ∧ Below W.heap.size W wr) (fun _ _ => 0)
      case atStart => exact ⟨rfl, hbr⟩
      case round =>
        clear m1 m3
        obtain ⟨rfl, hbr2⟩ := hrel
        have m3 := cell_below hbr2 g3
        go_wp2
        go_ret
        exact ⟨rfl, hbr2⟩

end Go.Proofs.YtlpbelhfpoilpaaGreat

namespace Go.Scout
open Go.RowKit

theorem rows_same {db db' : List RowsV} (hl : db'.length = db.length) (hs : ∀ i, i < db.length → (db'.getD i rz).rs.length = (db.getD i rz).rs.length ∧ ∀ j, j < (db.getD i rz).rs.length → ((db'.getD i rz).rs.getD j iz).xs = ((db.getD i rz).rs.getD j iz).xs) (i : Nat) : (db'.getD i rz).rs.map IntsV.xs = (db.getD i rz).rs.map IntsV.xs := by
  by_cases hi : i < db.length
  · obtain ⟨h1, h2⟩ := hs i hi
    apply List.ext_getElem (by simpa using h1)
    intro j hj1 hj2
    rw [List.length_map] at hj1 hj2
    have h3 := h2 j hj2
    have e1 : (db'.getD i rz).rs.getD j iz = (db'.getD i rz).rs[j] := by
      generalize (db'.getD i rz).rs = l at *
      simp [List.getD, hj1]
    have e2 : (db.getD i rz).rs.getD j iz = (db.getD i rz).rs[j] := by
      generalize (db.getD i rz).rs = l at *
      simp [List.getD, hj2]
    rw [e1, e2] at h3
    rw [List.getElem_map, List.getElem_map]
    exact h3
  · have e1 : db.getD i rz = rz := by simp [List.getD, hi]
    have e2 : db'.getD i rz = rz := by simp [List.getD, hl, hi]
    rw [e1, e2]

theorem len_same {db db' : List RowsV} (hl : db'.length = db.length) (hs : ∀ i, i < db.length → (db'.getD i rz).rs.length = (db.getD i rz).rs.length ∧ ∀ j, j < (db.getD i rz).rs.length → ((db'.getD i rz).rs.getD j iz).xs = ((db.getD i rz).rs.getD j iz).xs) (i : Nat) : (db'.getD i rz).rs.length = (db.getD i rz).rs.length := by
  have := congrArg List.length (rows_same hl hs i)
  simpa using this

theorem combos_same {db db' : List RowsV} (hl : db'.length = db.length) (hs : ∀ i, i < db.length → (db'.getD i rz).rs.length = (db.getD i rz).rs.length ∧ ∀ j, j < (db.getD i rz).rs.length → ((db'.getD i rz).rs.getD j iz).xs = ((db.getD i rz).rs.getD j iz).xs) (src : List Int) : combosN src db' = combosN src db := by
  unfold combosN
  congr 1
  apply List.map_congr_left
  intro t _
  exact rows_same hl hs t.toNat

theorem data_same {db db' : List RowsV} (hl : db'.length = db.length) (hs : ∀ i, i < db.length → (db'.getD i rz).rs.length = (db.getD i rz).rs.length ∧ ∀ j, j < (db.getD i rz).rs.length → ((db'.getD i rz).rs.getD j iz).xs = ((db.getD i rz).rs.getD j iz).xs) (ts : List TableD) (src : List Int) : dataB ts src db' = dataB ts src db := by
  unfold dataB
  have e1 : dbB ts db' = dbB ts db := by
    unfold dbB
    rw [hl, Bool.eq_iff_iff, List.all_eq_true, List.all_eq_true]
    have hf : ∀ i, tabB (db'.getD i rz) (ts.getD i tz) = tabB (db.getD i rz) (ts.getD i tz) := fun i => by
      unfold tabB fitB
      rw [len_same hl hs i]
      congr 1
      have h := rows_same hl hs i
      have e : ∀ (l : List IntsV) (n : Int), (l.all fun r => rowB r.xs n) = (l.map IntsV.xs).all (fun x => rowB x n) := fun l n => by rw [List.all_map]; rfl
      rw [e, e, h]
    constructor
    · intro h i hi
      rw [← hf]; exact h i hi
    · intro h i hi
      rw [hf]; exact h i hi
  have e2 : prodN src db' = prodN src db := by
    unfold prodN
    congr 1
    funext n t
    rw [len_same hl hs]
  rw [e1, e2, hl]

theorem answer_same {db db' : List RowsV} (hl : db'.length = db.length) (hs : ∀ i, i < db.length → (db'.getD i rz).rs.length = (db.getD i rz).rs.length ∧ ∀ j, j < (db.getD i rz).rs.length → ((db'.getD i rz).rs.getD j iz).xs = ((db.getD i rz).rs.getD j iz).xs) (q : QueryV) (bf bk bu be bo bw : Nat) (A : Nat → Nat) : answerN (lentQ q bf bk bu be bo bw A) db' = answerN q db := by
  unfold answerN
  have e1 : holdsB (lentQ q bf bk bu be bo bw A).wh = holdsB q.wh := by
    funext xs
    unfold holdsB
    have e : ∀ l : List ClauseV, (l.all fun c => someB c.cs xs) = (l.map ClauseV.cs).all (fun cs => someB cs xs) := fun l => by rw [List.all_map]; rfl
    rw [e, e]
    show ((lentLs q.wh A).map ClauseV.cs).all _ = _
    rw [lentLs_cs]
  rw [e1]
  show sortN q.ord.xs (outRows (lentQ q bf bk bu be bo bw A) ((combosN q.src.xs db').filter (holdsB q.wh))) = _
  rw [combos_same hl hs]
  rfl

theorem evalE_same {db db' : List RowsV} (hl : db'.length = db.length) (hs : ∀ i, i < db.length → (db'.getD i rz).rs.length = (db.getD i rz).rs.length ∧ ∀ j, j < (db.getD i rz).rs.length → ((db'.getD i rz).rs.getD j iz).xs = ((db.getD i rz).rs.getD j iz).xs) (ts : List TableD) (q : QueryV) (bf bk bu be bo bw : Nat) (A : Nat → Nat) : evalE ts (lentQ q bf bk bu be bo bw A) db' = evalE ts q db := by
  unfold evalE
  rw [lentQ_check]
  show (if q.check ts = 0 then (if dataB ts q.src.xs db' = true then (0 : Int) else 4) else q.check ts) = _
  rw [data_same hl hs]

theorem evalR_same {db db' : List RowsV} (hl : db'.length = db.length) (hs : ∀ i, i < db.length → (db'.getD i rz).rs.length = (db.getD i rz).rs.length ∧ ∀ j, j < (db.getD i rz).rs.length → ((db'.getD i rz).rs.getD j iz).xs = ((db.getD i rz).rs.getD j iz).xs) (ts : List TableD) (q : QueryV) (bf bk bu be bo bw : Nat) (A : Nat → Nat) : evalR ts (lentQ q bf bk bu be bo bw A) db' = evalR ts q db := by
  unfold evalR
  rw [evalE_same hl hs, answer_same hl hs]
/-- Rows that came out of Eval: a list of their own, each in a block of its own, all new. -/
structure CameOut (e : TypeId) (lo : Nat) (W : World) (ao : Option Addr) (ys : List IntsV) : Prop where
  cells : CellsAt W ao ys.length (fun i => (ys.getD i iz).val)
  at' : ∀ y ∈ ys, (ownEl e).At y W
  new : ∀ y ∈ ys, ∀ b, rowEl.blk y = some b → lo ≤ b
  apart : ys.Pairwise fun y z => ∀ b, rowEl.blk y = some b → rowEl.blk z ≠ some b
  list : ∀ a, ao = some a → lo ≤ a.block ∧ ∀ y ∈ ys, rowEl.blk y ≠ some a.block
  len : ys.length ≤ 20001
  wide : ∀ y ∈ ys, y.xs.length ≤ 1000

theorem CameOut.nil (e : TypeId) (lo : Nat) (W : World) : CameOut e lo W none [] :=
  ⟨fun i hi => absurd hi (by simp), fun y hy => (by cases hy), fun y hy => (by cases hy), List.Pairwise.nil, fun a ha => (by cases ha), by simp, fun y hy => (by cases hy)⟩

theorem CameOut.rowsAt {e : TypeId} {lo : Nat} {W : World} {ao : Option Addr} {ys : List IntsV} (h : CameOut e lo W ao ys) : RowsAt W ao ys :=
  ⟨by have := h.len; omega, h.cells, fun i hi => (h.at' _ (getD_memR hi)).1.1⟩

theorem CameOut.below {e : TypeId} {lo : Nat} {W W' : World} {ao : Option Addr} {ys : List IntsV} (h : CameOut e lo W ao ys) (hb : Below W.heap.size W W') : CameOut e lo W' ao ys :=
  ⟨h.cells.below hb, fun y hy => (ownEl e).keep (h.at' y hy) hb.size (fun b hb' _ => hb.block b hb'), h.new, h.apart, h.list, h.len, h.wide⟩

theorem CameOut.lower {e : TypeId} {lo lo' : Nat} {W : World} {ao : Option Addr} {ys : List IntsV} (h : CameOut e lo W ao ys) (hl : lo' ≤ lo) : CameOut e lo' W ao ys :=
  ⟨h.cells, h.at', fun y hy b hb => Nat.le_trans hl (h.new y hy b hb), h.apart, fun a ha => ⟨Nat.le_trans hl (h.list a ha).1, (h.list a ha).2⟩, h.len, h.wide⟩

theorem Gathered.cameOut {e tR : TypeId} {w1 W : World} {ys : List IntsV} {o : Nat → Prop} {v : Value} (h : Gathered (newEl e w1.heap.size) w1.heap.size w1 tR ys o W v) (hl : ys.length ≤ 20001) (hw : ∀ y ∈ ys, y.xs.length ≤ 1000) : ∃ ao cap, v = .slice ao ys.length cap ∧ CameOut e w1.heap.size W ao ys := by
  have hat : ∀ y ∈ ys, (ownEl e).At y W := fun y hy => (h.at' y hy).1
  have hnew : ∀ y ∈ ys, ∀ b, rowEl.blk y = some b → w1.heap.size ≤ b := fun y hy => (h.at' y hy).2
  have hap : ys.Pairwise fun y z => ∀ b, rowEl.blk y = some b → rowEl.blk z ≠ some b := by
    refine List.Pairwise.imp_of_mem ?_ h.apart
    intro y z hy hz hyz b hb hb'
    have h1 := hyz b hb hb'
    have h2 := hnew y hy b hb
    omega
  rcases own_news h.own with ⟨h1, h2⟩ | ⟨g, c, h1, h2, h3, h4⟩
  · have : ys = [] := List.map_eq_nil_iff.1 h2
    subst this
    exact ⟨none, 0, h1, CameOut.nil _ _ _⟩
  · refine ⟨some ⟨g, 0, none⟩, c, h1, ⟨fun i hi => ⟨g, 0, rfl, ?_⟩, hat, hnew, hap, fun a ha => ?_, hl, hw⟩⟩
    · have := h4 i (ys.getD i iz).val (by rw [List.getElem?_map]; simp [List.getD, hi])
      rw [addr_add] at this
      exact this
    · cases ha
      refine ⟨by show w1.heap.size ≤ g; omega, fun y hy e' => ?_⟩
      have := (h.off y hy g e').2
      rw [h1] at this
      exact this rfl

theorem answer_lens {q : QueryV} {db : List RowsV} (h4 : q.keys.xs.length ≤ 4) (hs : q.sums.xs.length ≤ 4) (h8 : q.sel.xs.length ≤ 8) : ∀ r ∈ answerN q db, r.length ≤ 1000 := by
  intro r hr
  unfold answerN at hr
  rw [sortN_mem] at hr
  have := outRows_lens q _ r hr
  unfold outN at this
  split at this <;> omega

end Go.Scout
namespace Go.Proofs.YtlpbelhfpoilpaaGreat
open Go.RowKit Go.Scout

/-- scout.Eval, whatever it is handed. -/
theorem evalU_any (co d : Option Addr) (cc dcap : Nat) (ts : List TableD) (q : QueryV) (db : List RowsV) (w : World) (hts : TablesAt w co ts) (hq : q.At w) (hkc : q.keys.xs.length ≤ q.keys.cap) (hoc : q.ord.xs.length ≤ q.ord.cap) (hsc : q.src.xs.length ≤ q.src.cap) (hdb : DbHad w d db) :
    Calls Tryz.prog 7 #[.slice co ts.length cc, .agg q.cells, .slice d db.length dcap] w fun e w' => ∃ (ao : Option Addr) (cap : Nat) (ys : List IntsV), e = .returned (.tuple #[.slice ao ys.length cap, .int .i64 (evalE ts q db)]) ∧ ys.map IntsV.xs = evalR ts q db ∧ CameOut 3 w.heap.size w' ao ys ∧ Below w.heap.size w w' := by
  by_cases hchk : q.check ts = 0
  · by_cases hdat : dataB ts q.src.xs db = true
    · have hE : evalE ts q db = 0 := by unfold evalE; rw [if_pos hchk, if_pos hdat]
      have hR : evalR ts q db = answerN q db := by unfold evalR; rw [if_pos hE]
      rw [hE, hR]
      obtain ⟨p1, p2, p3, p4, p5, p6⟩ := check_parts hchk
      have hf := full_parts p2
      have hpr : prodN q.src.xs db ≤ 20000 := by
        have h := hdat
        unfold dataB at h
        simp only [Bool.and_eq_true, decide_eq_true_eq] at h
        exact h.2
      refine (evalX_any co d cc dcap ts q db w hts hq hkc hoc hsc hdb hchk hdat).mono ?_
      rintro e w' ⟨v, ys, o, w1, rfl, hys, hG, hb1⟩
      have hln : ys.length ≤ 20001 := by
        have h1 := congrArg List.length hys
        rw [List.length_map] at h1
        unfold answerN at h1
        rw [sortN_len] at h1
        have h2 := outRows_len q ((combosN q.src.xs db).filter (holdsB q.wh))
        have h3 := List.length_filter_le (holdsB q.wh) (combosN q.src.xs db)
        have h4 := combos_count q.src.xs db
        omega
      obtain ⟨ao, cap, rfl, hC⟩ := hG.cameOut hln (fun y hy => answer_lens hf.2.2.2.1 hf.2.2.2.2.1 hf.2.2.1 _ (by rw [← hys]; exact List.mem_map_of_mem hy))
      exact ⟨ao, cap, ys, rfl, hys, hC.lower hb1.size, hb1.trans (hG.below.mono hb1.size)⟩
    · have hE : evalE ts q db = 4 := by unfold evalE; rw [if_pos hchk, if_neg hdat]
      have hR : evalR ts q db = [] := by unfold evalR; rw [if_neg (by rw [hE]; omega)]
      rw [hE, hR]
      refine (evalD_any co d cc dcap ts q db w hts hq hkc hoc hdb.1 hchk hdat).mono ?_
      rintro e w' ⟨rfl, hb⟩
      exact ⟨none, 0, [], rfl, rfl, CameOut.nil _ _ _, hb⟩
  · have hE : evalE ts q db = q.check ts := by unfold evalE; rw [if_neg hchk]
    have hR : evalR ts q db = [] := by unfold evalR; rw [if_neg (by rw [hE]; exact hchk)]
    rw [hE, hR]
    refine (evalC_any co d cc dcap db.length ts q w hts hq hkc hoc hchk).mono ?_
    rintro e w' ⟨rfl, hb⟩
    exact ⟨none, 0, [], rfl, rfl, CameOut.nil _ _ _, hb⟩

/-- The document's answer, whatever it is handed. -/
theorem refU_any (co d : Option Addr) (cc dcap : Nat) (ts : List TableD) (q : QueryV) (db : List RowsV) (w : World) (hts : TablesAt w co ts) (hq : q.At w) (hdb : DbAt w d db) :
    Calls Tryz.prog 8 #[.slice co ts.length cc, .agg q.cells, .slice d db.length dcap] w fun e w' => ∃ (ao : Option Addr) (cap : Nat) (ys : List IntsV), e = .returned (.tuple #[.slice ao ys.length cap, .int .i64 (evalE ts q db)]) ∧ ys.map IntsV.xs = evalR ts q db ∧ RowsAt w' ao ys ∧ Below w.heap.size w w' := by
  have hnil : ∀ W : World, RowsAt W none [] := fun W => ⟨by simp, fun i hi => absurd hi (by simp), fun i hi => absurd hi (by simp)⟩
  by_cases hchk : q.check ts = 0
  · by_cases hdat : dataB ts q.src.xs db = true
    · have hE : evalE ts q db = 0 := by unfold evalE; rw [if_pos hchk, if_pos hdat]
      have hR : evalR ts q db = answerN q db := by unfold evalR; rw [if_pos hE]
      rw [hE, hR]
      exact refEvalX_any co d cc dcap ts q db w hts hq hdb hchk hdat
    · have hE : evalE ts q db = 4 := by unfold evalE; rw [if_pos hchk, if_neg hdat]
      have hR : evalR ts q db = [] := by unfold evalR; rw [if_neg (by rw [hE]; omega)]
      rw [hE, hR]
      refine (refEvalD_any co d cc dcap ts q db w hts hq hdb hchk hdat).mono ?_
      rintro e w' ⟨rfl, hb⟩
      exact ⟨none, 0, [], rfl, rfl, hnil _, hb⟩
  · have hE : evalE ts q db = q.check ts := by unfold evalE; rw [if_neg hchk]
    have hR : evalR ts q db = [] := by unfold evalR; rw [if_neg (by rw [hE]; exact hchk)]
    rw [hE, hR]
    refine (refEvalC_any co d cc dcap db.length ts q w hts hq hchk).mono ?_
    rintro e w' ⟨rfl, hb⟩
    exact ⟨none, 0, [], rfl, rfl, hnil _, hb⟩

theorem num_any (e : Int) (w : World) : Calls Tryz.prog 12 #[.int .i64 e] w fun r w' => r = .returned (.int .i64 e) ∧ w' = w := by
  go_enter Tryz.func12, Tryz.ntmps12
  go_wp2
  go_ret
  exact ⟨rfl, rfl⟩

end Go.Proofs.YtlpbelhfpoilpaaGreat

namespace Go.Scout
open Go.RowKit

theorem BookAt.own_lt {W : World} {bb tB tR tI n : Nat} {es : List IntsV} {ms : List Int} {vi vm : Value} (h : BookAt W bb tB tR tI n es ms vi vm) : ∀ b, BookAt.own bb es vi vm b → b < W.heap.size := by
  rintro b (rfl | hb | hb | ⟨e, he, hb⟩)
  · exact h.cell.lt
  · exact (ownsRow_lt h.ints hb).2
  · exact (ownsRow_lt h.marks hb).2
  · exact (h.off e he b hb).2.2.2

end Go.Scout
namespace Go.Proofs.YtlpbelhfpoilpaaGreat
open Go.RowKit Go.Scout

set_option maxRecDepth 20000 in
set_option maxHeartbeats 16000000 in
theorem evalB_any (bb n : Nat) (es : List IntsV) (ms : List Int) (vi vm : Value) (ao d : Option Addr) (cap dcap : Nat) (ts : List TableD) (q : QueryV) (db : List RowsV) (W : World) (hB : BookAt W bb 32 23 3 n es ms vi vm) (hn : n ≤ 30000) (hes : es.length ≤ 200000) (hbb : ∀ b, BookAt.own bb es vi vm b → bb ≤ b)
    (hx : TablesAt W ao ts) (hq : q.At W) (hd : DbAt W d db) (hlow : ∀ W', Below bb W W' → TablesAt W' ao ts ∧ q.At W' ∧ DbAt W' d db)
    (hsz : ts.length * 48 ≤ 140737488351232) (z1 : q.src.xs.length * 8 ≤ 140737488351232) (z2 : q.keys.xs.length * 8 ≤ 140737488351232) (z3 : q.sums.xs.length * 8 ≤ 140737488351232) (z4 : q.sel.xs.length * 8 ≤ 140737488351232) (z5 : q.ord.xs.length * 8 ≤ 140737488351232)
    (z6 : q.wh.length * 24 ≤ 140737488351232) (z7 : ∀ i, i < q.wh.length → (q.wh.getD i lz).cs.length * 40 ≤ 140737488351232)
    (y1 : db.length * 24 ≤ 140737488351232) (y2 : ∀ i, i < db.length → (db.getD i rz).rs.length * 24 ≤ 140737488351232) (y3 : ∀ i, i < db.length → ∀ j, j < (db.getD i rz).rs.length → ((db.getD i rz).rs.getD j iz).xs.length * 8 ≤ 140737488351232) :
    Calls Tryz.prog 4 #[.pointer (some ⟨bb, 0, none⟩), .slice ao ts.length cap, .agg q.cells, .slice d db.length dcap] W fun e W' => e = .returned (.bool true) ∧ ∃ n' es' ms' vi' vm', BookAt W' bb 32 23 3 n' es' ms' vi' vm' ∧ n' ≤ n + 20001 ∧ es'.length ≤ es.length + 80004 ∧
      (∀ b, BookAt.own bb es' vi' vm' b → bb ≤ b) ∧ Below bb W W' := by
  have hbbl : bb < W.heap.size := hB.cell.lt
  have hb1 := below_alloc W (.cells q.cells 26)
  obtain ⟨W1, hW1⟩ : ∃ W1, W.alloc (.cells q.cells 26) = W1 := ⟨_, rfl⟩
  have hX : W1.cell? ⟨W.heap.size, 0, none⟩ = some q.src.val ∧ W1.cell? ⟨W.heap.size, 1, none⟩ = some (.slice q.wad q.wh.length q.wcap) ∧ W1.cell? ⟨W.heap.size, 2, none⟩ = some (.bool q.group) ∧ W1.cell? ⟨W.heap.size, 3, none⟩ = some q.keys.val ∧ W1.cell? ⟨W.heap.size, 4, none⟩ = some q.sums.val ∧ W1.cell? ⟨W.heap.size, 5, none⟩ = some q.sel.val ∧ W1.cell? ⟨W.heap.size, 6, none⟩ = some q.ord.val := by
    rw [← hW1]; unfold QueryV.cells; refine ⟨?_, ?_, ?_, ?_, ?_, ?_, ?_⟩ <;> simp
  rw [hW1] at hb1
  have hgi := giveD_any ao d cap dcap ts q db W1 (hx.below hb1) (hq.below hb1) (hd.below hb1) hsz z1 z2 z3 z4 z5 z6 z7 y1 y2 y3
  have HX : Hid _ := hX
  have HB1 : Hid _ := hb1
  have HW1 : Hid _ := hW1
  have HB : Hid _ := hB
  have HBB : Hid _ := hbb
  have HXX : Hid (TablesAt W1 ao ts ∧ q.At W1 ∧ DbAt W1 d db) := ⟨hx.below hb1, hq.below hb1, hd.below hb1⟩
  have HLO : Hid _ := hlow
  have hown := hB.own_lt
  have HOL : Hid _ := hown
  -- what comes behind the world in which all is lent
  have HREF : Hid (∀ x, Below W1.heap.size W1 x → Calls Tryz.prog 8 #[.slice ao ts.length cap, .agg q.cells, .slice d db.length dcap] x fun e w' => ∃ (ao : Option Addr) (cap : Nat) (ys : List IntsV), e = .returned (.tuple #[.slice ao ys.length cap, .int .i64 (evalE ts q db)]) ∧ ys.map IntsV.xs = evalR ts q db ∧ RowsAt w' ao ys ∧ Below x.heap.size x w') :=
    fun x hb => refU_any ao d cap dcap ts q db x (HXX.out.1.below hb) (HXX.out.2.1.below hb) (HXX.out.2.2.below hb)
  clear hX hb1 hW1 hB hbb hx hq hd hlow hown hsz z1 z2 z3 z4 z5 z6 z7 y1 y2 y3
  unfold QueryV.cells IntsV.val at hgi HREF HX HW1
  unfold QueryV.cells IntsV.val
  obtain ⟨c0, c1, c2, c3, c4, c5, c6⟩ := HX.out
  go_enter Tryz.func4, Tryz.ntmps4
  go_wp2_with fail
  rw [HW1.out]
  refine hgi.mono ?_
  rintro e wg ⟨G, bc, bf, bk, bu, be, bo, bw, bp, bd, v, vr, u1, u2, A, k1, k2, s1, s2, x1, x2, db', rfl, hG⟩
  clear hgi c0 c1 c2 c3 c4 c5 c6 HW1
  have hbg := hG.bel
  have hgd : GivD W1 wg.drew G 43 76 74 78 3 54 51 29 23 ts q db db' bc bf bk bu be bo bw bp bd v vr u1 u2 A k1 k2 s1 s2 x1 x2 := hG.below ((Below.refl _ _).drew)
  have g0 : wg.cell? ⟨G, 0, none⟩ = some (.slice (some ⟨bc, 0, none⟩) ts.length (ts.length + 2)) := hG.g.cell 0
  have g1 : wg.cell? ⟨G, 1, none⟩ = some (.slice (some ⟨bf, 0, none⟩) q.src.xs.length (q.src.xs.length + 2)) := hG.g.cell 1
  have g2 : wg.cell? ⟨G, 2, none⟩ = some (.slice (some ⟨bw, 0, none⟩) q.wh.length (q.wh.length + 2)) := hG.g.cell 2
  have g3 : wg.cell? ⟨G, 3, none⟩ = some (.bool q.group) := hG.g.cell 3
  have g4 : wg.cell? ⟨G, 4, none⟩ = some (.slice (some ⟨bk, 0, none⟩) q.keys.xs.length (q.keys.xs.length + 2)) := hG.g.cell 4
  have g5 : wg.cell? ⟨G, 5, none⟩ = some (.slice (some ⟨bu, 0, none⟩) q.sums.xs.length (q.sums.xs.length + 2)) := hG.g.cell 5
  have g6 : wg.cell? ⟨G, 6, none⟩ = some (.slice (some ⟨be, 0, none⟩) q.sel.xs.length (q.sel.xs.length + 2)) := hG.g.cell 6
  have g7 : wg.cell? ⟨G, 7, none⟩ = some (.slice (some ⟨bo, 0, none⟩) q.ord.xs.length (q.ord.xs.length + 2)) := hG.g.cell 7
  have g9 : wg.cell? ⟨G, 9, none⟩ = some (.slice (some ⟨bd, 0, none⟩) db.length (db.length + 2)) := hG.g.cell 9
  have hlen := hG.len
  have hev := evalU_any (some ⟨bc, 0, none⟩) (some ⟨bd, 0, none⟩) (ts.length + 2) (db.length + 2) ts (lentQ q bf bk bu be bo bw A) db' wg.drew (tabsAt hgd.cat HXX.out.1.1) (GivD_query hgd HXX.out.2.1) (by show q.keys.xs.length ≤ q.keys.xs.length + 2; omega) (by show q.ord.xs.length ≤ q.ord.xs.length + 2; omega) (by show q.src.xs.length ≤ q.src.xs.length + 2; omega) (hgd.had HXX.out.2.2)
  rw [evalE_same hlen hG.same, evalR_same hlen hG.same, hlen] at hev
  have hev2 : Calls Tryz.prog 7 #[.slice (some ⟨bc, 0, none⟩) ts.length (ts.length + 2), .agg #[.slice (some ⟨bf, 0, none⟩) q.src.xs.length (q.src.xs.length + 2), .slice (some ⟨bw, 0, none⟩) q.wh.length (q.wh.length + 2), .bool q.group, .slice (some ⟨bk, 0, none⟩) q.keys.xs.length (q.keys.xs.length + 2), .slice (some ⟨bu, 0, none⟩) q.sums.xs.length (q.sums.xs.length + 2), .slice (some ⟨be, 0, none⟩) q.sel.xs.length (q.sel.xs.length + 2), .slice (some ⟨bo, 0, none⟩) q.ord.xs.length (q.ord.xs.length + 2)], .slice (some ⟨bd, 0, none⟩) db.length (db.length + 2)] wg.drew fun e w' => ∃ (ao : Option Addr) (cap : Nat) (ys : List IntsV), e = .returned (.tuple #[.slice ao ys.length cap, .int .i64 (evalE ts q db)]) ∧ ys.map IntsV.xs = evalR ts q db ∧ CameOut 3 wg.heap.size w' ao ys ∧ Below wg.heap.size wg w' := by
    have e1 : (lentQ q bf bk bu be bo bw A).cells = #[.slice (some ⟨bf, 0, none⟩) q.src.xs.length (q.src.xs.length + 2), .slice (some ⟨bw, 0, none⟩) q.wh.length (q.wh.length + 2), .bool q.group, .slice (some ⟨bk, 0, none⟩) q.keys.xs.length (q.keys.xs.length + 2), .slice (some ⟨bu, 0, none⟩) q.sums.xs.length (q.sums.xs.length + 2), .slice (some ⟨be, 0, none⟩) q.sel.xs.length (q.sel.xs.length + 2), .slice (some ⟨bo, 0, none⟩) q.ord.xs.length (q.ord.xs.length + 2)] := by
      unfold QueryV.cells lentQ IntsV.val
      simp only [lentLs_len]
    rw [e1] at hev
    refine hev.mono ?_
    rintro e w' ⟨ao, cap, ys, h1, h2, h3, h4⟩
    exact ⟨ao, cap, ys, h1, h2, h3, (Below.refl _ _).drew.trans h4⟩
  clear hev hgd
  obtain ⟨E, hE⟩ : ∃ E, E = evalE ts q db := ⟨_, rfl⟩
  obtain ⟨R, hR⟩ : ∃ R, R = evalR ts q db := ⟨_, rfl⟩
  rw [← hE, ← hR] at HREF hev2
  clear hE hR
  have HG : Hid _ := hG
  have HBG : Hid _ := hbg
  clear hG hbg
  go_wp2
  refine wp_region_held_drew (S := fun x => Below wg.heap.size wg x) (by kernel_rfl) ((Below.refl _ _).drew) (fun hS => ?_)
  refine wpAnyH_take (i := 0) (v := .pointer (some ⟨G, 0, none⟩)) rfl (by kernel_rfl) (by kernel_rfl) (by kernel_rfl) (fun _ _ _ h => h) (.inl ⟨by rfl, fun x hx => ?_⟩) hS ?_
  · go_simp
  refine wpAnyH_take (i := 1) (v := .pointer (some ⟨G, 0, none⟩)) rfl (by kernel_rfl) (by kernel_rfl) (by kernel_rfl) (fun _ _ _ h => h) (.inl ⟨by rfl, fun x hx => ?_⟩) hS ?_
  · go_simp
  refine wpAnyH_take (i := 2) (v := .pointer (some ⟨G, 0, none⟩)) rfl (by kernel_rfl) (by kernel_rfl) (by kernel_rfl) (fun _ _ _ h => h) (.inl ⟨by rfl, fun x hx => ?_⟩) hS ?_
  · go_simp
  refine wpAnyH_take (i := 3) (v := .slice (some ⟨bc, 0, none⟩) ts.length (ts.length + 2)) rfl (by kernel_rfl) (by kernel_rfl) (by kernel_rfl) (fun _ _ _ h => h) (.inl ⟨by rfl, fun x hx => ?_⟩) hS ?_
  · have q0 := cell_below hx g0
    go_simp
  refine wpAnyH_take (i := 4) (v := .pointer (some ⟨G, 0, none⟩)) rfl (by kernel_rfl) (by kernel_rfl) (by kernel_rfl) (fun _ _ _ h => h) (.inl ⟨by rfl, fun x hx => ?_⟩) hS ?_
  · go_simp
  refine wpAnyH_take (i := 5) (v := .pointer (some ⟨G, 0, none⟩)) rfl (by kernel_rfl) (by kernel_rfl) (by kernel_rfl) (fun _ _ _ h => h) (.inl ⟨by rfl, fun x hx => ?_⟩) hS ?_
  · go_simp
  refine wpAnyH_take (i := 6) (v := .pointer (some ⟨G, 1, none⟩)) rfl (by kernel_rfl) (by kernel_rfl) (by kernel_rfl) (fun _ _ _ h => h) (.inl ⟨by rfl, fun x hx => ?_⟩) hS ?_
  · go_simp
  refine wpAnyH_take (i := 7) (v := .agg #[.slice (some ⟨bf, 0, none⟩) q.src.xs.length (q.src.xs.length + 2), .slice (some ⟨bw, 0, none⟩) q.wh.length (q.wh.length + 2), .bool q.group, .slice (some ⟨bk, 0, none⟩) q.keys.xs.length (q.keys.xs.length + 2), .slice (some ⟨bu, 0, none⟩) q.sums.xs.length (q.sums.xs.length + 2), .slice (some ⟨be, 0, none⟩) q.sel.xs.length (q.sel.xs.length + 2), .slice (some ⟨bo, 0, none⟩) q.ord.xs.length (q.ord.xs.length + 2)]) rfl (by kernel_rfl) (by kernel_rfl) (by kernel_rfl) (fun _ _ _ h => h) (.inl ⟨by rfl, fun x hx => ?_⟩) hS ?_
  · have q1 := cell_below hx g1
    have q2 := cell_below hx g2
    have q3 := cell_below hx g3
    have q4 := cell_below hx g4
    have q5 := cell_below hx g5
    have q6 := cell_below hx g6
    have q7 := cell_below hx g7
    go_simp
  refine wpAnyH_take (i := 8) (v := .pointer (some ⟨G, 0, none⟩)) rfl (by kernel_rfl) (by kernel_rfl) (by kernel_rfl) (fun _ _ _ h => h) (.inl ⟨by rfl, fun x hx => ?_⟩) hS ?_
  · go_simp
  refine wpAnyH_take (i := 9) (v := .pointer (some ⟨G, 0, none⟩)) rfl (by kernel_rfl) (by kernel_rfl) (by kernel_rfl) (fun _ _ _ h => h) (.inl ⟨by rfl, fun x hx => ?_⟩) hS ?_
  · go_simp
  refine wpAnyH_take (i := 10) (v := .pointer (some ⟨G, 9, none⟩)) rfl (by kernel_rfl) (by kernel_rfl) (by kernel_rfl) (fun _ _ _ h => h) (.inl ⟨by rfl, fun x hx => ?_⟩) hS ?_
  · go_simp
  refine wpAnyH_take (i := 11) (v := .slice (some ⟨bd, 0, none⟩) db.length (db.length + 2)) rfl (by kernel_rfl) (by kernel_rfl) (by kernel_rfl) (fun _ _ _ h => h) (.inl ⟨by rfl, fun x hx => ?_⟩) hS ?_
  · have q9 := cell_below hx g9
    go_simp
  refine wpAnyH_ready (rs := [12]) (by kernel_rfl) (by simp) ?_
  refine AllReadyH.cons rfl (fun K hK => ?_) AllReadyH.nil
  go_simp
  refine hev2.mono ?_
  rintro e w3 ⟨rao, rcap, ys, rfl, hys, hC, hb3⟩
  refine hK.out _ _ hb3 (fun hS => ?_)
  clear hK K
  refine wpAnyH_take (i := 13) (v := .tuple #[.slice rao ys.length rcap, .int .i64 E]) rfl (by kernel_rfl) (by kernel_rfl) (by kernel_rfl) (fun _ _ _ h => h) (.inl ⟨by rfl, fun x hx => ?_⟩) hS ?_
  · go_simp
  refine wpAnyH_take (i := 14) (v := .slice rao ys.length rcap) rfl (by kernel_rfl) (by kernel_rfl) (by kernel_rfl) (fun _ _ _ h => h) (.inl ⟨by rfl, fun x hx => ?_⟩) hS ?_
  · go_simp
  refine wpAnyH_take (i := 15) (v := .int .i64 E) rfl (by kernel_rfl) (by kernel_rfl) (by kernel_rfl) (fun _ _ _ h => h) (.inl ⟨by rfl, fun x hx => ?_⟩) hS ?_
  · go_simp
  refine wpAnyH_take (i := 16) (v := .slice rao ys.length rcap) rfl (by kernel_rfl) (by kernel_rfl) (by kernel_rfl) (fun _ _ _ h => h) (.inl ⟨by rfl, fun x hx => ?_⟩) hS ?_
  · go_simp
  refine wpAnyH_take (i := 17) (v := .int .i64 E) rfl (by kernel_rfl) (by kernel_rfl) (by kernel_rfl) (fun _ _ _ h => h) (.inl ⟨by rfl, fun x hx => ?_⟩) hS ?_
  · go_simp
  refine wpAnyH_done (by kernel_rfl) ?_ _
  simp only [Act.put, List.setIfInBounds_toArray, List.set_cons_succ, List.set_cons_zero]
  clear hS
  clear hev2 g0 g1 g2 g3 g4 g5 g6 g7 g9
  have hb13 : Below W1.heap.size W1 w3 := HBG.out.trans (hb3.mono HBG.out.size)
  obtain ⟨d0, d1, d2, d3, d4, d5, d6⟩ := HX.out
  have e0 := cell_below hb13 d0
  have e1 := cell_below hb13 d1
  have e2 := cell_below hb13 d2
  have e3 := cell_below hb13 d3
  have e4 := cell_below hb13 d4
  have e5 := cell_below hb13 d5
  have e6 := cell_below hb13 d6
  have href := HREF.out w3 hb13
  go_wp2_with fail
  refine Calls.mono href ?_
  rintro e w4 ⟨sao, scap, zs, rfl, hzs, hRz, hb4⟩
  clear href
  have hb14 := Below.step hb13 hb4
  have hg4 := HG.out.below (Below.step hb3 hb4)
  have hC4 := hC.below hb4
  have f0 := cell_below hb4 e0
  have f1 := cell_below hb4 e1
  have f2 := cell_below hb4 e2
  have f3 := cell_below hb4 e3
  have f4 := cell_below hb4 e4
  have f5 := cell_below hb4 e5
  have f6 := cell_below hb4 e6
  have hwh := wholeD_true W1 w4 G ao d cap dcap ts q db db' bc bf bk bu be bo bw bp bd v vr u1 u2 A k1 k2 s1 s2 x1 x2 hg4 (HXX.out.1.below hb14) (HXX.out.2.1.below hb14) (HXX.out.2.2.below hb14)
  unfold QueryV.cells IntsV.val at hwh
  clear e0 e1 e2 e3 e4 e5 e6 hg4 hC
  go_wp2_with fail
  refine Calls.mono hwh ?_
  rintro e w5 ⟨rfl, hb5⟩
  clear hwh
  have hC5 := hC4.below hb5
  have hRz5 := hRz.below hb5
  have hb35 := Below.step (Below.step hb3 hb4) hb5
  have hlz : ys.length = zs.length := by
    have h1 := congrArg List.length hys
    have h2 := congrArg List.length hzs
    rw [List.length_map] at h1 h2
    omega
  have hsr := sameRows_true rao sao rcap scap ys zs w5 hC5.rowsAt hRz5 hlz (fun i hi => by
    have h1 : (ys.map IntsV.xs).getD i [] = (zs.map IntsV.xs).getD i [] := by rw [hys, hzs]
    have hi' : i < zs.length := by omega
    simpa [List.getD, hi, hi'] using h1)
  clear hC4 hRz hRz5 hlz hys hzs
  go_wp2_with fail
  refine Calls.mono hsr ?_
  rintro e w6 ⟨rfl, hb6⟩
  clear hsr
  have hC6 := hC5.below hb6
  have hb36 := Below.step hb35 hb6
  have hbW6 : Below W.heap.size W w6 := HB1.out.trans ((HBG.out.trans (hb36.mono HBG.out.size)).mono HB1.out.size)
  have hB6 := HB.out.below hbW6
  have hszg : W.heap.size ≤ wg.heap.size := Nat.le_trans HB1.out.size HBG.out.size
  have hbr := rowsB_any bb n es ms vi vm rao rcap wg.heap.size ys w6 hB6 (fun b hb => by have := HOL.out b hb; omega) hb36.size hC6.cells (by have := hC6.len; omega) hC6.at' hC6.new hC6.apart hC6.list hn hes hC6.wide
  have hyl := hC6.len
  clear hC5 hC6 hB6
  go_wp2_with fail
  refine Calls.mono hbr ?_
  rintro e w7 ⟨rfl, es', ms', vi', vm', hB7, hel7, hk7, hown7⟩
  clear hbr
  have hbl7 : Below bb W w7 := ⟨hk7.os.trans hbW6.os, hk7.tape.trans hbW6.tape, hk7.output.trans hbW6.output, Nat.le_trans hbW6.size hk7.size, fun b hb => (hk7.block b (by have := hbW6.size; omega) ⟨by omega, fun h => by have := HBB.out b h; omega⟩).trans (hbW6.block b (by omega))⟩
  have hg7 := HG.out.later (w'' := w7) (Nat.le_trans hb36.size hk7.size) (fun b hl hb => (hk7.block b (by have := hb36.size; omega) ⟨hb, fun h => by have := HOL.out b h; have := HB1.out.size; omega⟩).trans (hb36.block b hb))
  obtain ⟨t7, q7, d7⟩ := HLO.out w7 hbl7
  have hwh := wholeD_true (emptyW w7) w7 G ao d cap dcap ts q db db' bc bf bk bu be bo bw bp bd v vr u1 u2 A k1 k2 s1 s2 x1 x2 hg7 t7 q7 d7
  unfold QueryV.cells IntsV.val at hwh
  have hbox : ∀ j, j < 7 → w7.cell? ⟨W.heap.size, j, none⟩ = w4.cell? ⟨W.heap.size, j, none⟩ := fun j _ => by
    have hlt : W.heap.size < w4.heap.size := lt_of_cell f0
    have h1 : w6.heap[W.heap.size]? = w4.heap[W.heap.size]? := (Below.step hb5 hb6).block _ hlt
    have hw1 : W.heap.size < W1.heap.size := lt_of_cell HX.out.1
    have h2 : w7.heap[W.heap.size]? = w6.heap[W.heap.size]? := hk7.block _ (by have := (Below.step hb5 hb6).size; omega) ⟨by have := HBG.out.size; omega, fun h => by have := HOL.out _ h; omega⟩
    exact World.cell?_of_block (a := ⟨W.heap.size, j, none⟩) (h2.trans h1)
  have h0 := (hbox 0 (by omega)).trans f0
  have h1 := (hbox 1 (by omega)).trans f1
  have h2 := (hbox 2 (by omega)).trans f2
  have h3 := (hbox 3 (by omega)).trans f3
  have h4 := (hbox 4 (by omega)).trans f4
  have h5 := (hbox 5 (by omega)).trans f5
  have h6 := (hbox 6 (by omega)).trans f6
  have HB7 : Hid _ := hB7
  have HEL : Hid _ := hel7
  have HOW : Hid (∀ b, BookAt.own bb es' vi' vm' b → bb ≤ b) := fun b hb => by
    rcases hown7 b hb with h | h
    · exact HBB.out b h
    · omega
  have HBL : Hid _ := hbl7
  clear hbox hg7 t7 q7 d7 hB7 hel7 hk7 hown7 hbl7 f0 f1 f2 f3 f4 f5 f6 hb3 hb4 hb5 hb6 hb13 hb14 hb35 hb36 hbW6 hszg d0 d1 d2 d3 d4 d5 d6
  go_wp2_with fail
  refine Calls.mono hwh ?_
  rintro e w8 ⟨rfl, hb8⟩
  clear hwh h0 h1 h2 h3 h4 h5 h6
  have hnum := num_any E w8
  go_wp2_with fail
  refine Calls.mono hnum ?_
  rintro e w9 ⟨rfl, rfl⟩
  clear hnum
  have hee : (E == E) = true := by simp
  go_wp2
  go_ret
  exact ⟨rfl, n + ys.length, es', ms', vi', vm', HB7.out.below hb8, by omega, by have := HEL.out; omega, HOW.out, HBL.out.trans (hb8.mono (by have := HBL.out.size; omega))⟩

end Go.Proofs.YtlpbelhfpoilpaaGreat

