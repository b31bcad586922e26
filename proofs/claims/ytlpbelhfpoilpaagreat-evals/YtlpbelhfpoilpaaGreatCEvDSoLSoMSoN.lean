import Derived.RegionTactic
import Derived.Test.YtlpbelhfpoilpaaGreatCBaseRItAItBItC
import Derived.Test.YtlpbelhfpoilpaaGreatCBase5PickAItFPure0
import Derived.Test.YtlpbelhfpoilpaaGreatCSoISoJSoK
import Derived.Test.YtlpbelhfpoilpaaGreatCRfGRfAEvC
set_option linter.all false
namespace Go.Scout
open Go.RowKit

end Go.Scout
namespace Go.Proofs.YtlpbelhfpoilpaaGreat
open Go.RowKit Go.Scout

set_option maxRecDepth 20000 in
set_option maxHeartbeats 8000000 in
theorem kept_any (q : QueryV) (co ro : Option Addr) (cc rc : Nat) (is xs : List Int) (w : World) (hq : ClausesAt w q.wad q.wh) (hi : IntsAt w co is) (hx : IntsAt w ro xs) (ha : allB is q.wh.length = true)
    (hcs : ∀ i, i < q.wh.length → ∀ k, k < (q.wh.getD i lz).cs.length → condB ((q.wh.getD i lz).cs.getD k cz) xs.length = true) :
    Calls Tryz.prog 23 #[.agg q.cells, .slice co is.length cc, .slice ro xs.length rc] w fun e w' => e = .returned (.bool (keptB q.wh is xs)) ∧ Below w.heap.size w w' := by
  obtain ⟨src, wad, wcap, wh, group, keys, sums, sel, ord⟩ := q
  simp only at hq ha hcs
  unfold QueryV.cells IntsV.val
  simp only
  have hl := hi.1
  have hwl := hq.1
  have HA : Hid (allB is wh.length = true) := ha
  clear ha
  obtain ⟨w1, hw1⟩ : ∃ x, x = w.alloc (.cells #[.slice src.ad src.xs.length src.cap, .slice wad wh.length wcap, .bool group, .slice keys.ad keys.xs.length keys.cap, .slice sums.ad sums.xs.length sums.cap, .slice sel.ad sel.xs.length sel.cap, .slice ord.ad ord.xs.length ord.cap] 26) := ⟨_, rfl⟩
  have hk1 : Below w.heap.size w w1 := by rw [hw1]; exact below_alloc _ _
  have x1 : w1.cell? ⟨w.heap.size, 1, none⟩ = some (.slice wad wh.length wcap) := by rw [hw1]; simp
  have HB : Hid (Below w1.heap.size w1 (w.alloc (.cells #[.slice src.ad src.xs.length src.cap, .slice wad wh.length wcap, .bool group, .slice keys.ad keys.xs.length keys.cap, .slice sums.ad sums.xs.length sums.cap, .slice sel.ad sel.xs.length sel.cap, .slice ord.ad ord.xs.length ord.cap] 26))) := show Below _ _ _ by rw [hw1]; exact Below.refl _ _
  have hQ := hq.below hk1
  have hI := hi.below hk1
  have hX := hx.below hk1
  have HK : Hid _ := hk1
  clear hw1 hk1 hq hi hx
  go_enter Tryz.func23, Tryz.ntmps23
  go_wp2
  go_loopw [7] (fun i wr => ∃ k : Nat, k ≤ is.length ∧ i = .int .i64 k ∧ Hid (keptB wh (is.take k) xs = true) ∧ Below w1.heap.size w1 wr) (fun i _ => is.length - (intOf i).toNat)
  case atStart => exact ⟨0, Nat.zero_le _, rfl, rfl, HB.out⟩
  case round =>
    clear HB
    obtain ⟨k, hk, rfl, HP, hbr⟩ := hrel
    by_cases hlt : k < is.length
    · have hr := allB_at HA.out hlt
      obtain ⟨b1, o1, rfl, hc1⟩ := hI.get hlt
      have hck := cell_below hbr (hc1 k hlt)
      have hj : is[k].toNat < wh.length := by omega
      obtain ⟨b2, o2, rfl, hc2⟩ := hQ.2.1.get hj
      have hcl := cell_below hbr (hc2 _ hj)
      have hcd := hQ.2.2 _ hj
      have hcb := hcs _ hj
      have m1 := cell_below hbr x1
      have HBD : Hid (someB (wh.getD is[k].toNat lz).cs xs = false → false = keptB wh is xs) := fun h => keptB_bad hlt h
      have HGD : Hid (someB (wh.getD is[k].toNat lz).cs xs = true → keptB wh (is.take (k + 1)) xs = true) := fun h => keptB_step hlt HP.out h
      generalize wh.getD is[k].toNat lz = cl at *
      obtain ⟨ad, cp, cs⟩ := cl
      unfold ClauseV.val at hcl
      simp only at hcl hcd hcb
      have hbw := lt_of_cell hcl
      have hbw1 := lt_of_cell hck
      have hbw2 := lt_of_cell m1
      have hsz := hbr.size
      have hcl2 := hcd.1
      clear hc1 hc2 hQ hI hcs
      go_wp2
      go_region
      go_wp2
      go_loopw [9, 10] (fun s i wr2 => ∃ m : Nat, m ≤ cs.length ∧ i = .int .i64 m ∧ s = .bool (someB (cs.take m) xs) ∧ Below w1.heap.size w1 wr2 ∧ wr2.cell? ⟨wr.heap.size, 0, none⟩ = some (.slice ad cs.length cp)) (fun _ i _ => cs.length - (intOf i).toNat)
      case atStart => exact ⟨0, Nat.zero_le _, rfl, rfl, (hbr.alloc hsz _).drew, by simp⟩
      case round =>
        obtain ⟨m, hm, rfl, rfl, hbr2, hloc⟩ := hrel
        clear m1 hcl hck
        by_cases hml : m < cs.length
        · obtain ⟨b4, o4, rfl, e0, e1, e2, e3, e4⟩ := hcd.2 m hml
          have d0 := cell_below hbr2 e0
          have d1 := cell_below hbr2 e1
          have d2 := cell_below hbr2 e2
          have d3 := cell_below hbr2 e3
          have d4 := cell_below hbr2 e4
          obtain ⟨p1, p2, p3⟩ := condB_parts (hcb m hml)
          have HS : Hid _ := someB_succ (xs := xs) hml
          generalize cs.getD m cz = cc at *
          have hC := truth_any cc ro rc xs wr (hX.below hbr2) p1 p2 p3
          unfold CondD.val at hC
          clear e0 e1 e2 e3 e4 p1 p2 p3 hcb
          generalize truthN cc xs = tt at *
          go_wp2_with fail
          refine hC.mono ?_
          clear hC
          rintro e w5 ⟨rfl, hb5⟩
          have hloc5 := cell_below hb5 hloc
          cases hsm : someB (cs.take m) xs
          · by_cases ht : tt = 1
            · have hte : (tt == 1) = true := by simpa using ht
              have HS' : Hid (someB (cs.take (m + 1)) xs = true) := show _ = _ by rw [HS.out, hsm, decide_eq_true ht]; rfl
              clear HS hsm ht
              go_wp2
              go_roundw
              case rel => exact ⟨m + 1, by omega, by go_num, val_bool HS'.out.symm, Below.step hbr2 hb5, hloc5⟩
              case measure => simp [intOf]; omega
            · have hte : (tt == 1) = false := by simpa using ht
              have HS' : Hid (someB (cs.take (m + 1)) xs = false) := show _ = _ by rw [HS.out, hsm, decide_eq_false ht]; rfl
              clear HS hsm ht
              go_wp2
              go_roundw
              case rel => exact ⟨m + 1, by omega, by go_num, val_bool HS'.out.symm, Below.step hbr2 hb5, hloc5⟩
              case measure => simp [intOf]; omega
          · have HS' : Hid (someB (cs.take (m + 1)) xs = true) := show _ = _ by rw [HS.out, hsm]; rfl
            clear HS hsm
            go_wp2
            go_roundw
            case rel => exact ⟨m + 1, by omega, by go_num, val_bool HS'.out.symm, Below.step hbr2 hb5, hloc5⟩
            case measure => simp [intOf]; omega
        · have hmm : cs.take m = cs := List.take_of_length_le (by omega)
          rw [hmm]
          cases hsm : someB cs xs
          · have HF : Hid (false = keptB wh is xs) := HBD.out hsm
            clear hsm hmm
            go_wp2
            go_ret
            exact ⟨ret_bool HF.out, Below.step HK.out hbr2⟩
          · have HF : Hid (keptB wh (is.take (k + 1)) xs = true) := HGD.out hsm
            clear hsm hmm
            go_wp2
            go_roundw
            case rel => exact ⟨k + 1, by omega, by go_num, HF, hbr2⟩
            case measure => simp [intOf]; omega
    · have HF : Hid (true = keptB wh is xs) := show _ = _ by
        have := HP.out
        rw [List.take_of_length_le (by omega)] at this
        exact this.symm
      go_wp2
      go_ret
      exact ⟨ret_bool HF.out, Below.step HK.out hbr⟩

end Go.Proofs.YtlpbelhfpoilpaaGreat

namespace Go.Scout
open Go.RowKit

/-- What all kinds of rows that are handed out have alike. -/
structure RowKind (E : El IntsV (List Int)) : Prop where
  enc : ∀ x, E.enc x = x.val
  key : ∀ x, E.key x = x.xs
  blk : ∀ x, E.blk x = rowEl.blk x
  at' : ∀ {x W}, E.At x W → rowEl.At x W

theorem rowKind_row : RowKind rowEl := ⟨fun _ => rfl, fun _ => rfl, fun _ => rfl, fun h => h⟩
theorem rowKind_own (e : TypeId) : RowKind (ownEl e) := ⟨fun _ => rfl, fun _ => rfl, fun _ => rfl, fun h => h.1⟩

theorem getD_take_mem {α : Type} {rs : List α} {d : α} {k j : Nat} (hj : j < k) (hk : k ≤ rs.length) : rs.getD j d ∈ rs.take k := by
  have hj' : j < rs.length := by omega
  have e : rs.getD j d = (rs.take k)[j]'(by rw [List.length_take]; omega) := by simp [List.getD, hj']
  rw [e]
  exact List.getElem_mem _

/-- A row's block is none of those of the rows ahead of it, where it is new. -/
theorem Apart.front {E : El IntsV (List Int)} {n : Nat} {rs : List IntsV} (h : Apart E n rs) {k : Nat} (hk : k < rs.length) {y : IntsV} (hy : y ∈ rs.take k) {b : Nat} (h1 : E.blk y = some b) (h2 : E.blk (rs.getD k iz) = some b) : b < n := by
  have e : rs = rs.take k ++ rs.getD k iz :: rs.drop (k + 1) := by
    have e1 : rs.getD k iz = rs[k] := by simp [List.getD, hk]
    rw [e1, ← List.drop_eq_getElem_cons hk, List.take_append_drop]
  unfold Apart at h
  rw [e, List.pairwise_append] at h
  exact h.2.2 y hy _ (by simp) b h1 h2

end Go.Scout
namespace Go.Proofs.YtlpbelhfpoilpaaGreat
open Go.RowKit Go.Scout Go.Shelf

attribute [local go_sem] Oper.semAt_some

set_option maxRecDepth 100000 in
set_option maxHeartbeats 4000000 in
/-- A list's rows handed out, where they may be new: whoever takes them may keep them. -/
theorem scan_run {E : El IntsV (List Int)} (K : RowKind E) (bt : Nat) (ao : Option Addr) (cap m n : Nat) (rs : List IntsV) (keys : List (List Int)) (hkeys : rs.map IntsV.xs = keys) (l : Nat) (J : List IntsV → (Nat → Prop) → World → Prop) (W : World) (o : Nat → Prop)
    (hc : W.cell? ⟨bt, 0, none⟩ = some (.slice ao rs.length cap)) (hcs : CellsAt W ao rs.length (fun i => (rs.getD i iz).val)) (hlen : rs.length ≤ 1152921504606846976)
    (hbt : ¬ o bt ∧ ∀ y ∈ rs, ∀ b, E.blk y = some b → n ≤ b → b ≠ bt) (hao : ∀ a, ao = some a → ¬ o a.block ∧ ∀ y ∈ rs, ∀ b, E.blk y = some b → n ≤ b → b ≠ a.block)
    (hat : ∀ y ∈ rs, E.At y W) (hblk : ∀ y ∈ rs, ∀ b, E.blk y = some b → ¬ o b ∧ (b < m ∨ n ≤ b)) (hap : Apart E n rs) (hon : ∀ b, o b → b < n) (hmn : m ≤ n) (hn : n ≤ W.heap.size)
    (hY : ∀ pre x o1 W1, J pre o1 W1 → (pre ++ [x]).map E.key <+: keys → E.At x W1 → (∀ b, E.blk x = some b → ¬ o1 b ∧ (b < m ∨ n ≤ b)) → n ≤ W1.heap.size →
      YieldAt Fence.wide 0 Tryz.prog l #[E.enc x] W1 fun e W' => e = .returned (.bool true) ∧ ∃ o2, J (pre ++ [x]) o2 W' ∧ Kept (fun b => ¬ o1 b) W1 W' ∧
        ∀ b, o2 b → o1 b ∨ (W1.heap.size ≤ b ∧ b < W'.heap.size) ∨ (E.blk x = some b ∧ n ≤ b))
    (h0 : J [] o W) :
    Calls Tryz.prog 85 #[.func (.yield l) #[] #[], .pointer (some ⟨bt, 0, none⟩)] W fun e W' => (∃ v, e = .returned v) ∧ ∃ o', J rs o' W' ∧ Kept (fun b => ¬ o b ∧ b < n) W W' ∧ ∀ b, o' b → o b ∨ (n ≤ b ∧ b < W'.heap.size) := by
  have hbtl : bt < W.heap.size := cell_lt (p := ⟨bt, 0, none⟩) hc
  have HY : Hid _ := hY
  have HAT : Hid _ := hat
  have HBK : Hid _ := hblk
  have HAP : Hid _ := hap
  have HON : Hid _ := hon
  have HCS : Hid _ := hcs
  have HBT : Hid _ := hbt
  have HAO : Hid _ := hao
  have HC : Hid _ := hc
  have HMN : Hid _ := And.intro hmn hn
  have HKE : Hid _ := hkeys
  clear hY hat hblk hap hon hcs hbt hao hmn hn hkeys
  refine (callsIn_wide (n := 0)).1 (callsIn_of_wp Tryz.func85 rfl trivial ?_ rfl)
  simp only [Tryz.ntmps85, List.size_toArray, List.length_cons, List.length_nil, Nat.reduceAdd, Nat.reduceSub, Array.replicate_succ, Array.replicate_zero, List.push_toArray, List.append_toArray, List.nil_append, List.cons_append]
  gi_wp2
  clear hc
  gi_loopw [7] (fun i wr => ∃ k : Nat, k ≤ rs.length ∧ i = .int .i64 k ∧ ∃ o1, J (rs.take k) o1 wr ∧ Hid (Kept (fun b => ¬ o b ∧ ∀ y ∈ rs.take k, E.blk y = some b → b < n) W wr) ∧ Hid (∀ b, o1 b → o b ∨ (W.heap.size ≤ b ∧ b < wr.heap.size) ∨ ∃ y ∈ rs.take k, E.blk y = some b ∧ n ≤ b))
    (fun i _ => rs.length - (intOf i).toNat)
  case atStart => exact ⟨0, Nat.zero_le _, rfl, o, h0, Kept.refl _ _, fun b h => .inl h⟩
  case round =>
    obtain ⟨k, hk, rfl, o1, hJs, hkw, ho1⟩ := hrel
    by_cases hlt : k < rs.length
    · obtain ⟨b, off, rfl, hcs⟩ := CellsAt.get HCS.out hlt
      have hsub : ∀ y ∈ rs.take k, y ∈ rs := fun y hy => List.mem_of_mem_take hy
      have hbw : wr.heap[b]? = W.heap[b]? := hkw.out.block b (cell_lt (p := ⟨b, off + k, none⟩) (hcs k hlt)) ⟨(HAO.out _ rfl).1, fun y hy hb => by
        rcases Nat.lt_or_ge b n with h | h
        · exact h
        · exact absurd rfl ((HAO.out _ rfl).2 y (hsub y hy) b hb h)⟩
      have hcx : wr.cell? ⟨b, off + k, none⟩ = some (rs.getD k iz).val := (World.cell?_of_block (a := ⟨b, off + k, none⟩) hbw).trans (hcs k hlt)
      have hmem : rs.getD k iz ∈ rs := by
        have e1 : rs.getD k iz = rs[k] := by simp [List.getD, hlt]
        rw [e1]; exact List.getElem_mem _
      have hfree : ∀ b, E.blk (rs.getD k iz) = some b → ¬ o b ∧ ∀ y ∈ rs.take k, E.blk y = some b → b < n := fun b hb => ⟨(HBK.out _ hmem b hb).1, fun y hy h => Apart.front HAP.out hlt hy h hb⟩
      have hrx : E.At (rs.getD k iz) wr := E.keep (HAT.out _ hmem) hkw.out.size (fun b hb' hb => hkw.out.block b hb' (hfree b hb))
      have hno : ∀ b, E.blk (rs.getD k iz) = some b → ¬ o1 b := fun b hb h => by
        rcases ho1.out b h with h | h | ⟨y, hy, h, h'⟩
        · exact (hfree b hb).1 h
        · have := E.inn (HAT.out _ hmem) hb; omega
        · have := (hfree b hb).2 y hy h; omega
      have HN : Hid (rs.take k ++ [rs.getD k iz] = rs.take (k + 1)) := take_snoc rs iz hlt
      have hpre : (rs.take k ++ [rs.getD k iz]).map E.key <+: keys := by
        rw [take_snoc rs iz hlt, ← HKE.out]
        have e : (rs.take (k + 1)).map E.key = (rs.take (k + 1)).map IntsV.xs := List.map_congr_left fun x _ => K.key x
        rw [e]
        exact List.IsPrefix.map _ (List.take_prefix _ _)
      obtain ⟨fn, tmps, assign, body, hy, hR⟩ := HY.out _ (rs.getD k iz) o1 wr hJs hpre hrx (fun b hb => ⟨hno b hb, (HBK.out _ hmem b hb).2⟩) (Nat.le_trans HMN.out.2 hkw.out.size)
      have HIN : Hid (∀ b, E.blk (rs.getD k iz) = some b → b < W.heap.size) := fun b hb => E.inn (HAT.out _ hmem) hb
      have HFR : Hid _ := hfree
      have HXM : Hid (rs.getD k iz ∈ rs.take (k + 1)) := getD_take_mem (by omega) (by omega)
      have HTS : Hid (∀ y ∈ rs.take k, y ∈ rs.take (k + 1)) := fun y hy => by rw [← HN.out]; exact List.mem_append.2 (Or.inl hy)
      have HTE : Hid (∀ y ∈ rs.take (k + 1), y ∈ rs.take k ∨ y = rs.getD k iz) := fun y hy => by
        rw [← HN.out] at hy
        rcases List.mem_append.1 hy with h | h
        · exact .inl h
        · rw [List.mem_singleton] at h; exact .inr h
      have hex : E.enc (rs.getD k iz) = (rs.getD k iz).val := K.enc _
      rw [hex] at hy
      clear hex hfree hno hmem hsub hbw
      generalize rs.getD k iz = x at *
      obtain ⟨xad, xcap, xxs⟩ := x
      have hy' : (Instr.yield l #[.slice xad xxs.length xcap]).run Tryz.prog wr = .ok (.round l fn tmps assign body) wr := hy
      have hcx' : wr.cell? ⟨b, off + k, none⟩ = some (.slice xad xxs.length xcap) := hcx
      clear hy hcx hrx hpre
      gi_wp2
      refine ⟨rfl, hR.mono ?_⟩
      rintro e W3 ⟨rfl, o2, hJ3, hk3, hg3⟩
      have HJ3 : Hid _ := hJ3
      have HK3 : Hid _ := hk3
      have HG3 : Hid _ := hg3
      clear hJ3 hk3 hg3
      gi_wp2
      go_roundw
      case rel =>
        have hk3 := HK3.out
        have hg3 := HG3.out
        have hmn := HMN.out
        refine ⟨k + 1, by omega, by simp, o2, by rw [← HN.out]; exact HJ3.out, ?_, ?_⟩
        · refine Kept.trans' (hkw.out.mono fun b _ h => ⟨h.1, fun y hy => h.2 y (HTS.out y hy)⟩) hk3 ?_
          intro b hb h h'
          rcases ho1.out b h' with h' | h' | ⟨y, hy, h1, h2⟩
          · exact h.1 h'
          · omega
          · have := h.2 y (HTS.out y hy) h1; omega
        · intro b hb
          rcases hg3 b hb with h | h | h
          · rcases ho1.out b h with h | h | ⟨y, hy, h1, h2⟩
            · exact .inl h
            · exact .inr (.inl ⟨h.1, by have := hk3.size; omega⟩)
            · exact .inr (.inr ⟨y, HTS.out y hy, h1, h2⟩)
          · exact .inr (.inl ⟨by have := hkw.out.size; omega, h.2⟩)
          · exact .inr (.inr ⟨_, HXM.out, h.1, h.2⟩)
      case measure => simp [intOf]; omega
    · obtain rfl : k = rs.length := by omega
      gi_wp2
      go_end0
      rw [List.take_length] at hJs hkw ho1
      refine ⟨⟨_, rfl⟩, o1, hJs, hkw.out.mono fun b _ h => ⟨h.1, fun _ _ _ => h.2⟩, fun b hb => ?_⟩
      have hsz := hkw.out.size
      rcases ho1.out b hb with h | h | ⟨y, hy, h1, h2⟩
      · exact .inl h
      · exact .inr ⟨Nat.le_trans HMN.out.2 h.1, h.2⟩
      · exact .inr ⟨h2, Nat.lt_of_lt_of_le (E.inn (HAT.out y hy) h1) hsz⟩

end Go.Proofs.YtlpbelhfpoilpaaGreat

namespace Go.Scout
open Go.RowKit

/-- A list of rows that is a block's alone: its cells, and what is behind them. -/
theorem own_rows {w : World} {base : Nat} {e : TypeId} {v : Value} {n : Nat} {ys : List IntsV} (h : w.ownsRow base e 1 v n (ys.map IntsV.val)) :
    n = ys.length ∧ ((v = .slice none 0 0 ∧ ys = []) ∨ ∃ g cap R, v = .slice (some ⟨g, 0, none⟩) ys.length cap ∧ base ≤ g ∧ GB w g e (SL ys R)) := by
  have hn : n = ys.length := by have := h.1; simpa using this.symm
  refine ⟨hn, ?_⟩
  rcases h.2 with ⟨h1, h2⟩ | ⟨g, cap, cur, h1, h2, h3, h4, h5, h6, h7⟩
  · exact .inl ⟨h1, List.eq_nil_of_length_eq_zero (by omega)⟩
  · refine .inr ⟨g, cap, cur.toList.drop (n * 1), by rw [h1, hn], h2, ?_⟩
    unfold GB SL
    rw [h3, ← h7, List.take_append_drop]

theorem SL_cells {w : World} {g : Nat} {e : TypeId} {L : List IntsV} {R : List Value} (h : GB w g e (SL L R)) : CellsAt w (some ⟨g, 0, none⟩) L.length (fun i => (L.getD i iz).val) := by
  intro i hi
  refine ⟨g, 0, rfl, ?_⟩
  rw [Nat.zero_add, h.cell]
  unfold SL
  rw [List.getElem?_toArray, List.getElem?_append_left (by simpa using hi), List.getElem?_map]
  simp [List.getD, hi]

theorem Apart.perm {E : El IntsV (List Int)} {n : Nat} {ys zs : List IntsV} (h : Apart E n ys) (hp : ys.Perm zs) : Apart E n zs :=
  (List.Perm.pairwise_iff (R := fun y z => ∀ b, E.blk y = some b → E.blk z = some b → b < n) (fun h b h1 h2 => h b h2 h1) hp).1 h

end Go.Scout
namespace Go.Proofs.YtlpbelhfpoilpaaGreat
open Go.RowKit Go.Scout Go.Shelf

set_option maxRecDepth 20000 in
set_option maxHeartbeats 2000000 in
theorem insertion0_any (g : Nat) (lb : Array Value) (w : World) : Calls Tryz.prog 109 #[.slice none 0 0, .int .i64 0, .int .i64 0, .func (.func g) #[] lb] w fun e w' => e = .returned (.tuple #[]) ∧ w' = w := by
  go_enter Tryz.func109, Tryz.ntmps109
  go_wp2
  refine wp_loop_rounds 1 ?_
  rw [rounds_succ]
  go_wp2
  go_end0
  exact ⟨rfl, rfl⟩

set_option maxRecDepth 20000 in
set_option maxHeartbeats 2000000 in
theorem stable0_any (g : Nat) (lb : Array Value) (w : World) : Calls Tryz.prog 103 #[.slice none 0 0, .int .i64 0, .func (.func g) #[] lb] w fun e w' => e = .returned (.tuple #[]) ∧ w' = w := by
  have hcall := insertion0_any g lb w
  go_enter Tryz.func103, Tryz.ntmps103
  go_wp2
  refine wp_loop_rounds 1 ?_
  rw [rounds_succ]
  go_wp2_with fail
  refine hcall.mono ?_
  rintro e w2 ⟨rfl, rfl⟩
  go_wp2
  refine wp_loop_rounds 1 ?_
  rw [rounds_succ]
  go_wp2
  go_end0
  exact ⟨rfl, rfl⟩

set_option maxRecDepth 20000 in
set_option maxHeartbeats 2000000 in
theorem sortStable0_any (g : Nat) (lb : Array Value) (w : World) : Calls Tryz.prog 90 #[.slice none 0 0, .func (.func g) #[] lb] w fun e w' => e = .returned (.tuple #[]) ∧ w' = w := by
  have hcall := stable0_any g lb w
  go_enter Tryz.func90, Tryz.ntmps90
  go_wp2_with fail
  refine hcall.mono ?_
  rintro e w2 ⟨rfl, rfl⟩
  go_wp2
  go_end0
  exact ⟨rfl, rfl⟩

set_option maxRecDepth 20000 in
set_option maxHeartbeats 2000000 in
theorem sortStable_any (blk cap g : Nat) (lb : Array Value) (cf : IntsV → IntsV → Int) (ok : IntsV → Prop) (w0 : World) (hC : Cmps Tryz.prog g lb cf blk w0 ok) (eg : ∀ args w, (callFunc g args).run Tryz.prog w = .ok (.enter g args) w) (O : Ahead (ltC cf))
    (L : List IntsV) (R : List Value) (w : World) (hG : GB w blk 23 (SL L R)) (hok : ∀ x ∈ L, ok x) (hK : Kept (fun b => b ≠ blk) w0 w) (hl : L.length ≤ 1000000) :
    Calls Tryz.prog 90 #[.slice (some ⟨blk, 0, none⟩) L.length cap, .func (.func g) #[] lb] w fun e w' => e = .returned (.tuple #[]) ∧ GB w' blk 23 (SL (mg (ltC cf) [] L) R) ∧ Kept (fun b => b ≠ blk) w w' := by
  have hcall := stable_any blk cap L.length g lb cf ok w0 hC eg O L R w hG hok hK rfl hl
  clear hG hok hK
  go_enter Tryz.func90, Tryz.ntmps90
  go_wp2_with fail
  refine hcall.mono ?_
  rintro e w2 ⟨rfl, h1, h2⟩
  go_wp2
  go_end0
  exact ⟨rfl, h1, h2⟩

set_option maxRecDepth 20000 in
set_option maxHeartbeats 2000000 in
/-- The function that rows.Sort hands over. -/
theorem sortCmp_any (bp : Nat) (x y c : IntsV) (w : World) (hb : w.cell? ⟨bp, 0, none⟩ = some c.val) (hx : x.At w) (hy : y.At w) (hc : c.At w) (ax : allB c.xs x.xs.length = true) (ay : allB c.xs y.xs.length = true) :
    Calls Tryz.prog 91 (#[x.val, y.val] ++ #[.pointer (some ⟨bp, 0, none⟩)]) w fun e w' => e = .returned (.int .i64 (cmpL x.xs y.xs c.xs)) ∧ ∃ m, w' = w.drewN m := by
  have hcall := compareRows_any x y c w hx hy hc ax ay
  clear hx hy hc ax ay
  generalize cmpL x.xs y.xs c.xs = r at *
  obtain ⟨xad, xcap, xs⟩ := x
  obtain ⟨yad, ycap, ys⟩ := y
  obtain ⟨cad, ccap, cs⟩ := c
  unfold IntsV.val at *
  simp only [List.append_toArray, List.cons_append, List.nil_append] at *
  go_enter Tryz.func91, Tryz.ntmps91
  go_wp2_with fail
  refine hcall.mono ?_
  rintro e w2 ⟨rfl, m, rfl⟩
  clear hcall
  go_wp2
  go_ret
  exact ⟨rfl, _, rfl⟩

/-- It compares, as long as its list of places lies as it lay. -/
theorem sortCmps (bp blk : Nat) (c : IntsV) (w0 : World) (hb : w0.cell? ⟨bp, 0, none⟩ = some c.val) (hc : c.At w0) (hbp : bp ≠ blk) (hcb : ∀ a, c.ad = some a → a.block ≠ blk) :
    Cmps Tryz.prog 91 #[.pointer (some ⟨bp, 0, none⟩)] (fun x y => cmpL x.xs y.xs c.xs) blk w0 (fun x => rowEl.At x w0 ∧ (∀ b, rowEl.blk x = some b → b ≠ blk) ∧ allB c.xs x.xs.length = true) := by
  intro W x y hK ⟨hx, hxb, ax⟩ ⟨hy, hyb, ay⟩
  have hx' := rowEl.keep hx hK.size (fun b hb h => hK.block b hb (hxb b h))
  have hy' := rowEl.keep hy hK.size (fun b hb h => hK.block b hb (hyb b h))
  refine sortCmp_any bp x y c W (cell_keep hb hK hbp) hx'.1 hy'.1 ⟨hc.1, hc.2.keep fun a ha hl => hK.block _ hl (hcb a ha)⟩ ax ay

end Go.Proofs.YtlpbelhfpoilpaaGreat

namespace Go.Proofs.YtlpbelhfpoilpaaGreat
open Go.RowKit Go.Scout Go.Shelf

attribute [local go_sem] Oper.semAt_some

set_option maxRecDepth 100000 in
set_option maxHeartbeats 4000000 in
/-- rows.Scan, its box told. -/
theorem scan_box (ao : Option Addr) (n cap : Nat) (w : World) :
    Calls Tryz.prog 69 #[.slice ao n cap] w fun e w' => e = .returned (.func (.func 85) #[] #[.pointer (some ⟨w.heap.size, 0, none⟩)]) ∧ w' = w.alloc (.cells #[.slice ao n cap] 29) := by
  go_enter Tryz.func69, Tryz.ntmps69
  go_wp2
  go_ret
  exact ⟨rfl, rfl⟩

set_option maxRecDepth 100000 in
set_option maxHeartbeats 8000000 in
theorem sort_seq {E : El IntsV (List Int)} (K : RowKind E) (bi bp gi : Nat) (lbi : Array Value) (c : IntsV) (rows : List (List Int)) (w0 : World) (hbi : bi < w0.heap.size) (hbp : bp < w0.heap.size)
    (hci : w0.cell? ⟨bi, 0, none⟩ = some (.func (.func gi) #[] lbi)) (hcp : w0.cell? ⟨bp, 0, none⟩ = some c.val) (hc : c.At w0) (hca : ∀ a, c.ad = some a → a.block < w0.heap.size)
    (hseq : Seq E Tryz.prog gi lbi rows w0) (egi : ∀ args w, (callFunc gi args).run Tryz.prog w = .ok (.enter gi args) w) (hlen : rows.length ≤ 1000000) (hin : ∀ r ∈ rows, allB c.xs r.length = true) :
    Seq E Tryz.prog 89 #[.pointer (some ⟨bi, 0, none⟩), .pointer (some ⟨bp, 0, none⟩)] (sortN c.xs rows) w0 := by
  intro l J W o hW ho hJ hY h0
  have c1 := (hW.cell (p := ⟨bi, 0, none⟩) hbi).trans hci
  have c2 := (hW.cell (p := ⟨bp, 0, none⟩) hbp).trans hcp
  have hga := gather_any E K.enc gi lbi rows w0 W hW hlen hseq egi
  have HY : Hid _ := hY
  have HO : Hid _ := ho
  have HW : Hid _ := hW
  have HJ : Hid _ := hJ
  have HC : Hid (c.At w0 ∧ (∀ a, c.ad = some a → a.block < w0.heap.size) ∧ bp < w0.heap.size ∧ w0.cell? ⟨bp, 0, none⟩ = some c.val) := ⟨hc, hca, hbp, hcp⟩
  have HLEN : Hid _ := hlen
  have HIN : Hid _ := hin
  clear hY ho hJ hseq egi hlen hin hc hca hci hcp hbi hbp hW
  refine (callsIn_wide (n := 0)).1 (callsIn_of_wp Tryz.func89 rfl trivial ?_ rfl)
  simp only [Tryz.ntmps89, List.size_toArray, List.length_cons, List.length_nil, Nat.reduceAdd, Nat.reduceSub, Array.replicate_succ, Array.replicate_zero, List.push_toArray, List.append_toArray, List.nil_append, List.cons_append]
  gi_wp2
  refine ⟨trivial, rfl, callsIn_wide.2 (hga.mono ?_)⟩
  rintro e Wg ⟨v, ys, oG, rfl, hys, hG⟩
  clear hga
  have hbg := hG.below
  have hszW : W.heap.size < Wg.heap.size := cell_lt (p := ⟨W.heap.size, 0, none⟩) hG.box
  have hysx : ys.map IntsV.xs = rows := by
    rw [← hys]
    exact (List.map_congr_left fun x _ => K.key x).symm
  have hyl : ys.length ≤ 1000000 := by have := congrArg List.length hysx; rw [List.length_map] at this; rw [this]; exact HLEN.out
  have hJg := HJ.out _ _ _ _ h0 (Kept.of_below (s := fun b => o b ∨ b < W.heap.size) hbg (fun b hb _ => hb))
  -- behind the sort, and behind the box of Scan: handed out
  have hfin : ∀ (zs : List IntsV) (ao : Option Addr) (cap : Nat) (W2 : World), zs.Perm ys → zs.map IntsV.xs = sortN c.xs rows → Kept (fun b => v.ownBlock ≠ some b) Wg W2 → v = .slice ao ys.length cap → CellsAt W2 ao zs.length (fun i => (zs.getD i iz).val) →
      Calls Tryz.prog 85 #[.func (.yield l) #[] #[], .pointer (some ⟨W2.heap.size, 0, none⟩)] (W2.alloc (.cells #[.slice ao ys.length cap] 29)) fun e W' => (∃ v, e = .returned v) ∧ ∃ ys' o', ys'.map E.key = sortN c.xs rows ∧ J ys' o' W' ∧ Kept (fun b => ¬ o b) W W' ∧ ∀ b, o' b → o b ∨ (W.heap.size ≤ b ∧ b < W'.heap.size) := by
    intro zs ao cap W2 hperm hzs hk2 hv hcells
    have hzl : zs.length = ys.length := hperm.length_eq
    have hs2 := hk2.size
    have hka : Kept (fun b => v.ownBlock ≠ some b) Wg (W2.alloc (.cells #[.slice ao ys.length cap] 29)) := hk2.trans (Kept.alloc _ _)
    have hnv : ∀ b, b < W.heap.size → v.ownBlock ≠ some b := fun b hb e => by have := (ownsRow_lt hG.own e).1; omega
    have hJ2 := HJ.out _ _ _ _ hJg (hka.mono fun b _ h => by
      rcases h with h | h
      · exact hnv b (HO.out b h).2
      · exact hnv b h)
    have hmem : ∀ y ∈ zs, y ∈ ys := fun y hy => hperm.mem_iff.1 hy
    refine (scan_run K W2.heap.size ao cap w0.heap.size W.heap.size zs (sortN c.xs rows) hzs l J (W2.alloc (.cells #[.slice ao ys.length cap] 29)) o ?_ ?_ ?_ ⟨fun h => ?_, fun y hy b hb _ => ?_⟩ (fun a ha => ⟨fun h => ?_, fun y hy b hb _ => ?_⟩) (fun y hy => ?_) (fun y hy b hb => ⟨fun h => ?_, ?_⟩) ?_ (fun b hb => (HO.out b hb).2) HW.out.size ?_ HY.out hJ2).mono ?_
    · rw [hzl]; exact (GB.alloc W2 _ _).cell 0
    · exact CellsAt.below (below_alloc _ _) hcells
    · omega
    · have := (HO.out _ h).2; omega
    · have := E.inn (hG.at' y (hmem y hy)) hb; omega
    · subst ha
      have e1 : v.ownBlock = some a.block := by
        rcases hG.own.2 with ⟨e, _⟩ | ⟨g, cap', cur, e, _⟩
        · rw [hv] at e; cases e
        · rw [e] at hv ⊢; cases hv; rfl
      exact hnv _ (HO.out _ h).2 e1
    · subst ha
      have e1 : v.ownBlock = some a.block := by
        rcases hG.own.2 with ⟨e, _⟩ | ⟨g, cap', cur, e, _⟩
        · rw [hv] at e; cases e
        · rw [e] at hv ⊢; cases hv; rfl
      have := (hG.off y (hmem y hy) b hb).2
      intro e2
      rw [e2] at this
      exact this e1
    · exact E.keep (hG.at' y (hmem y hy)) hka.size (fun b hb h => hka.block b hb (hG.off y (hmem y hy) b h).2)
    · rcases hG.born y (hmem y hy) b hb with h1 | h1
      · have := (HO.out b h).1; omega
      · have := (HO.out b h).2; omega
    · exact hG.born y (hmem y hy) b hb
    · exact hG.apart.perm hperm.symm
    · simp; omega
    · rintro e W' ⟨hv', o', hJ', hk', ho'⟩
      refine ⟨hv', zs, o', ?_, hJ', ?_, ho'⟩
      · rw [← hzs]; exact List.map_congr_left fun x _ => K.key x
      · have h1 : Kept (fun b => ¬ o b) W Wg := Kept.of_below hbg (fun b hb _ => hb)
        have h2 : Kept (fun b => ¬ o b ∧ b < W.heap.size) W Wg := Kept.of_below hbg (fun b hb _ => hb)
        exact ((h2.trans' (hka.mono (t := fun b => b < W.heap.size) fun b _ h => hnv b h) (fun b _ h => h.2)).trans hk').mono fun b hb h => ⟨h, hb⟩
  have HF : Hid _ := hfin
  clear hfin
  obtain ⟨hn, hcase⟩ := own_rows hG.own
  rcases hcase with ⟨rfl, hnil⟩ | ⟨g, cap, R, rfl, hgb, hGB⟩
  · subst hnil
    have hs0 := sortStable0_any 91 #[.pointer (some ⟨bp, 0, none⟩)] Wg
    have hrn : sortN c.xs rows = [] := by rw [← hysx]; rfl
    have hf0 := HF.out [] none 0 Wg (List.Perm.refl _) hrn.symm (Kept.refl _ _) rfl (fun i hi => absurd hi (by simp))
    have hb0 := scan_box none 0 0 Wg
    clear HF hG
    gi_wp2
    refine ⟨trivial, rfl, callsIn_wide.2 (hs0.mono ?_)⟩
    rintro e w2 ⟨rfl, rfl⟩
    clear hs0
    gi_wp2
    refine ⟨trivial, rfl, callsIn_wide.2 (hb0.mono ?_)⟩
    rintro e w3 ⟨rfl, rfl⟩
    clear hb0
    gi_wp2
    refine ⟨trivial, rfl, callsIn_wide.2 (hf0.mono ?_)⟩
    rintro e w4 ⟨⟨v4, rfl⟩, hpost⟩
    clear hf0
    gi_wp2
    go_end0
    exact ⟨⟨_, rfl⟩, hpost⟩
  · have hcm := sortCmps bp g c Wg
      ((hbg.cell (p := ⟨bp, 0, none⟩) (Nat.lt_of_lt_of_le HC.out.2.2.1 HW.out.size)).trans c2) (IntsAt.below hbg (IntsAt.below HW.out HC.out.1)) (by have := HC.out.2.2.1; have := HW.out.size; omega) (fun a ha => by have := HC.out.2.1 a ha; have := HW.out.size; omega)
    have hs1 := sortStable_any g cap 91 #[.pointer (some ⟨bp, 0, none⟩)] _ _ Wg hcm (enters_of Tryz.func91 (by kernel_rfl) rfl) (ltC_ahead c.xs) ys R Wg hGB
      (fun x hx => ⟨K.at' (hG.at' x hx), fun b hb e => by
        rw [← K.blk] at hb
        have := (hG.off x hx b hb).2
        rw [e] at this
        exact this rfl, HIN.out _ (by rw [← hysx]; exact List.mem_map_of_mem hx)⟩) (Kept.refl _ _) hyl
    have hf1 := fun (W2 : World) (hg2 : GB W2 g 23 (SL (mg (ltC fun x y : IntsV => cmpL x.xs y.xs c.xs) [] ys) R)) (hk2 : Kept (fun b => b ≠ g) Wg W2) => HF.out (mg (ltC fun x y : IntsV => cmpL x.xs y.xs c.xs) [] ys) (some ⟨g, 0, none⟩) cap W2 (mg_perm ys []) (by rw [sortN_of, hysx]) (hk2.mono fun b _ h e => by subst e; exact h rfl) rfl (SL_cells hg2)
    have hb0 := fun W2 => scan_box (some ⟨g, 0, none⟩) ys.length cap W2
    clear HF hG hGB hcm
    generalize mg (ltC fun x y : IntsV => cmpL x.xs y.xs c.xs) [] ys = zs at *
    gi_wp2
    refine ⟨trivial, rfl, callsIn_wide.2 (hs1.mono ?_)⟩
    rintro e w2 ⟨rfl, hg2, hk2⟩
    have hf2 := hf1 w2 hg2 hk2
    clear hs1 hf1 hg2 hk2
    gi_wp2
    refine ⟨trivial, rfl, callsIn_wide.2 ((hb0 w2).mono ?_)⟩
    rintro e w3 ⟨rfl, rfl⟩
    clear hb0
    gi_wp2
    refine ⟨trivial, rfl, callsIn_wide.2 (hf2.mono ?_)⟩
    rintro e w4 ⟨⟨v4, rfl⟩, hpost⟩
    clear hf2
    gi_wp2
    go_end0
    exact ⟨⟨_, rfl⟩, hpost⟩

end Go.Proofs.YtlpbelhfpoilpaaGreat

