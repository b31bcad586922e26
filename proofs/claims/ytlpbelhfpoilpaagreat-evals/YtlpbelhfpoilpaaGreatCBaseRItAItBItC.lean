import Derived.RangeFuncNested
import Derived.Shelf.Abstract
import Derived.WalkKit
import Derived.OwnWalkIn
import Derived.TacticsInMore
import Derived.LoopNIn
import Derived.LoopIn
import Derived.Test.YtlpbelhfpoilpaaGreatProg
import Derived.Maps.OwnIn
import Derived.Maps.AppendAt
import Derived.OwnWalk
import Derived.Test.YtlpbelhfpoilpaaGreatCRLawBaseBase2Base3
set_option linter.all false
namespace Go.Scout
open Go.RowKit

def iz : IntsV := ⟨none, 0, []⟩

/-- A list of rows: one cell each, which holds the slice of its numbers. -/
def RowsAt (w : World) (ao : Option Addr) (rs : List IntsV) : Prop :=
  rs.length ≤ 1152921504606846976 ∧ CellsAt w ao rs.length (fun i => (rs.getD i iz).val) ∧ ∀ i, i < rs.length → (rs.getD i iz).At w

theorem RowsAt.below {w w' : World} (hb : Below w.heap.size w w') {ao : Option Addr} {rs : List IntsV} (h : RowsAt w ao rs) : RowsAt w' ao rs :=
  ⟨h.1, h.2.1.below hb, fun i hi => IntsAt.below hb (h.2.2 i hi)⟩

/-- A table of a database: a slice of rows. -/
structure RowsV where
  ad : Option Addr
  cap : Nat
  rs : List IntsV

def rz : RowsV := ⟨none, 0, []⟩
def RowsV.val (v : RowsV) : Value := .slice v.ad v.rs.length v.cap
def RowsV.At (v : RowsV) (w : World) : Prop := RowsAt w v.ad v.rs

/-- A database: one cell a table, which holds the slice of its rows. -/
def DbAt (w : World) (ao : Option Addr) (db : List RowsV) : Prop :=
  db.length ≤ 1152921504606846976 ∧ CellsAt w ao db.length (fun i => (db.getD i rz).val) ∧ ∀ i, i < db.length → (db.getD i rz).At w

theorem DbAt.below {w w' : World} (hb : Below w.heap.size w w') {ao : Option Addr} {db : List RowsV} (h : DbAt w ao db) : DbAt w' ao db :=
  ⟨h.1, h.2.1.below hb, fun i hi => RowsAt.below hb (h.2.2 i hi)⟩

end Go.Scout

namespace Go.Scout
open Go.RowKit

theorem cell_lt {w : World} {p : Addr} {v : Value} (h : w.cell? p = some v) : p.block < w.heap.size := by
  unfold World.cell? at h
  cases hb : w.heap[p.block]? with
  | none => simp [hb] at h
  | some o => exact (Array.getElem?_eq_some_iff.1 hb).1

theorem CellsAt.keep {A B : World} {ao : Option Addr} {n : Nat} {f : Nat → Value} (h : CellsAt A ao n f) (hb : ∀ a, ao = some a → a.block < A.heap.size → B.heap[a.block]? = A.heap[a.block]?) : CellsAt B ao n f := by
  intro i hi
  obtain ⟨b, off, rfl, hc⟩ := h i hi
  have hl : b < A.heap.size := cell_lt (p := ⟨b, off + i, none⟩) hc
  exact ⟨b, off, rfl, (World.cell?_of_block (a := ⟨b, off + i, none⟩) (hb ⟨b, off, none⟩ rfl hl)).trans hc⟩

/-- A row that is handed out. -/
def rowEl : El IntsV (List Int) where
  enc := IntsV.val
  At x W := x.At W ∧ (∀ a, x.ad = some a → a.block < W.heap.size) ∧ (x.ad = none → x.cap = 0)
  blk x := x.ad.map (·.block)
  key := IntsV.xs
  keep := by
    rintro x A B ⟨h, hl, hn⟩ hs hb
    refine ⟨⟨h.1, h.2.keep fun a ha hlt => hb _ hlt (by rw [ha]; rfl)⟩, fun a ha => Nat.lt_of_lt_of_le (hl a ha) hs, hn⟩
  inn := by
    rintro x A b ⟨_, hl, _⟩ hb
    cases ha : x.ad with
    | none => rw [ha] at hb; cases hb
    | some a => rw [ha] at hb; cases hb; exact hl a ha

theorem rowEl_blk {x : IntsV} {b : Nat} (h : rowEl.blk x = some b) : ∃ a, x.ad = some a ∧ a.block = b := by
  have h' : x.ad.map (·.block) = some b := h
  cases ha : x.ad with
  | none => rw [ha] at h'; cases h'
  | some a => rw [ha] at h'; cases h'; exact ⟨a, rfl, rfl⟩

/-- A table whose rows lie in memory that there is. -/
def RowsHad (w : World) (ao : Option Addr) (rs : List IntsV) : Prop := RowsAt w ao rs ∧ (∀ a, ao = some a → a.block < w.heap.size) ∧ ∀ i, i < rs.length → rowEl.At (rs.getD i iz) w

theorem RowsHad.below {w w' : World} (hb : Below w.heap.size w w') {ao : Option Addr} {rs : List IntsV} (h : RowsHad w ao rs) : RowsHad w' ao rs :=
  ⟨h.1.below hb, fun a ha => Nat.lt_of_lt_of_le (h.2.1 a ha) hb.size, fun i hi => rowEl.keep (h.2.2 i hi) hb.size (fun b hb' _ => hb.block b hb')⟩

theorem take_snoc {α : Type} (rs : List α) (d : α) {k : Nat} (hk : k < rs.length) : rs.take k ++ [rs.getD k d] = rs.take (k + 1) := by
  rw [List.take_succ_eq_append_getElem hk]; simp [List.getD, hk]

end Go.Scout
namespace Go.Proofs.YtlpbelhfpoilpaaGreat
open Go.RowKit Go.Scout Go.Shelf

attribute [local go_sem] Oper.semAt_some

set_option maxRecDepth 100000 in
set_option maxHeartbeats 4000000 in
theorem scan_seq (bt : Nat) (ao : Option Addr) (cap : Nat) (rs : List IntsV) (w0 : World) (hbt : bt < w0.heap.size) (hc : w0.cell? ⟨bt, 0, none⟩ = some (.slice ao rs.length cap)) (hr : RowsHad w0 ao rs) :
    Seq rowEl Tryz.prog 85 #[.pointer (some ⟨bt, 0, none⟩)] (rs.map (·.xs)) w0 := by
  intro l J W o hW ho hJ hY h0
  have hcW := (hW.cell (p := ⟨bt, 0, none⟩) hbt).trans hc
  have hrW := hr.below hW
  have hlen := hr.1.1
  have HY : Hid _ := hY
  have HO : Hid _ := ho
  have HR : Hid _ := hrW
  have HW : Hid _ := hW
  have HR0 : Hid _ := hr
  clear hY ho hrW hW hr hJ
  refine (callsIn_wide (n := 0)).1 (callsIn_of_wp Tryz.func85 rfl trivial ?_ rfl)
  simp only [Tryz.ntmps85, List.size_toArray, List.length_cons, List.length_nil, Nat.reduceAdd, Nat.reduceSub, Array.replicate_succ, Array.replicate_zero, List.push_toArray, List.append_toArray, List.nil_append, List.cons_append]
  gi_wp2
  gi_loopw [7] (fun i wr => ∃ k : Nat, k ≤ rs.length ∧ i = .int .i64 k ∧ ∃ o1, J (rs.take k) o1 wr ∧ Kept (fun b => ¬ o b) W wr ∧ Hid (∀ b, o1 b → o b ∨ (W.heap.size ≤ b ∧ b < wr.heap.size)))
    (fun i _ => rs.length - (intOf i).toNat)
  case atStart => exact ⟨0, Nat.zero_le _, rfl, o, h0, Kept.refl _ _, fun b h => .inl h⟩
  case round =>
    obtain ⟨k, hk, rfl, o1, hJs, hkw, ho1⟩ := hrel
    by_cases hlt : k < rs.length
    · obtain ⟨b, off, rfl, hcs⟩ := HR0.out.1.2.1.get hlt
      have hb0 : b < w0.heap.size := HR0.out.2.1 _ rfl
      have hbw : Below w0.heap.size w0 wr := HW.out.trans (hkw.below HW.out.size (fun i hi h => by have := (HO.out i h).1; omega))
      have hcx : wr.cell? ⟨b, off + k, none⟩ = some (rs.getD k iz).val := (hbw.cell (p := ⟨b, off + k, none⟩) hb0).trans (hcs k hlt)
      have hrx : rowEl.At (rs.getD k iz) wr := rowEl.keep (HR0.out.2.2 k hlt) hbw.size (fun b hb' _ => hbw.block b hb')
      have hno : ∀ b, o1 b → w0.heap.size ≤ b := fun b h => by
        rcases ho1.out b h with h | h
        · exact (HO.out b h).1
        · have := HW.out.size; omega
      have hbk : ∀ b, rowEl.blk (rs.getD k iz) = some b → b < w0.heap.size := fun b h => by
        obtain ⟨a, ha, rfl⟩ := rowEl_blk h
        exact (HR0.out.2.2 k hlt).2.1 a ha
      have HN : Hid (rs.take k ++ [rs.getD k iz] = rs.take (k + 1)) := take_snoc rs iz hlt
      have hpre : (rs.take k ++ [rs.getD k iz]).map rowEl.key <+: rs.map (·.xs) := by
        rw [take_snoc rs iz hlt]
        exact List.IsPrefix.map _ (List.take_prefix _ _)
      obtain ⟨fn, tmps, assign, body, hy, hR⟩ := HY.out _ (rs.getD k iz) o1 wr hJs hpre hrx (fun b h => ⟨fun h' => by have := hno b h'; have := hbk b h; omega, .inl (hbk b h)⟩) hkw.size
      generalize rs.getD k iz = x at *
      obtain ⟨xad, xcap, xxs⟩ := x
      have hy' : (Instr.yield l #[.slice xad xxs.length xcap]).run Tryz.prog wr = .ok (.round l fn tmps assign body) wr := hy
      have hcx' : wr.cell? ⟨b, off + k, none⟩ = some (.slice xad xxs.length xcap) := hcx
      clear hy hcx hrx hpre
      gi_wp2
      refine ⟨rfl, hR.mono ?_⟩
      rintro e W3 ⟨rfl, o2, hJ3, hk3, hg3⟩
      gi_wp2
      go_roundw
      case rel =>
        refine ⟨k + 1, by omega, by simp, o2, by rw [← HN.out]; exact hJ3, hkw.trans' hk3 ?_, ?_⟩
        · intro b hb h h'
          rcases ho1.out b h' with h' | h'
          · exact h h'
          · omega
        · intro b hb
          rcases hg3 b hb with h | h | h
          · rcases ho1.out b h with h | h
            · exact .inl h
            · exact .inr ⟨h.1, by have := hk3.size; omega⟩
          · exact .inr ⟨by have := hkw.size; omega, h.2⟩
          · have := hbk b h.1; have := HW.out.size; omega
      case measure => simp [intOf]; omega
    · obtain rfl : k = rs.length := by omega
      gi_wp2
      go_end0
      exact ⟨⟨_, rfl⟩, rs, o1, rfl, by rw [List.take_length] at hJs; exact hJs, hkw, ho1.out⟩

end Go.Proofs.YtlpbelhfpoilpaaGreat

namespace Go.Scout
open Go.RowKit

theorem mem_of_pre {pre : List IntsV} {x : IntsV} {rows : List (List Int)} (h : (pre ++ [x]).map rowEl.key <+: rows) : x.xs ∈ rows := by
  have hm : x.xs ∈ (pre ++ [x]).map rowEl.key := by simp [rowEl]
  exact h.subset hm

theorem pre_filter {pre : List IntsV} {x : IntsV} {rows : List (List Int)} (p : List Int → Bool) (h : (pre ++ [x]).map rowEl.key <+: rows) (hp : p x.xs = true) :
    (pre.filter (fun r => p r.xs) ++ [x]).map rowEl.key <+: rows.filter p := by
  have h1 := List.IsPrefix.filter p h
  have h2 : (pre.filter (fun r => p r.xs) ++ [x]).map rowEl.key = ((pre ++ [x]).map rowEl.key).filter p := by
    rw [List.filter_map]
    congr 1
    rw [List.filter_append]
    simp [rowEl, Function.comp_def, hp]
  rw [h2]
  exact h1

theorem cell_keep {A B : World} {p : Addr} {v : Value} {s : Nat → Prop} (h : A.cell? p = some v) (hk : Kept s A B) (hs : s p.block) : B.cell? p = some v :=
  (World.cell?_of_block (hk.block _ (cell_lt h) hs)).trans h

end Go.Scout
namespace Go.Proofs.YtlpbelhfpoilpaaGreat
open Go.RowKit Go.Scout Go.Shelf

attribute [local go_sem] Oper.semAt_some

set_option maxRecDepth 100000 in
set_option maxHeartbeats 4000000 in
theorem filter_seq (bi bk gi gk : Nat) (lbi lbk : Array Value) (rows : List (List Int)) (p : List Int → Bool) (w0 : World) (hbi : bi < w0.heap.size) (hbk : bk < w0.heap.size)
    (hci : w0.cell? ⟨bi, 0, none⟩ = some (.func (.func gi) #[] lbi)) (hck : w0.cell? ⟨bk, 0, none⟩ = some (.func (.func gk) #[] lbk))
    (hseq : Seq rowEl Tryz.prog gi lbi rows w0) (egi : ∀ args w, (callFunc gi args).run Tryz.prog w = .ok (.enter gi args) w) (egk : ∀ args w, (callFunc gk args).run Tryz.prog w = .ok (.enter gk args) w)
    (hkeep : ∀ W x, Below w0.heap.size w0 W → IntsV.At x W → x.xs ∈ rows → Calls Tryz.prog gk (#[x.val] ++ lbk) W fun e W' => e = .returned (.bool (p x.xs)) ∧ Below W.heap.size W W') :
    Seq rowEl Tryz.prog 68 #[.pointer (some ⟨bi, 0, none⟩), .pointer (some ⟨bk, 0, none⟩)] (rows.filter p) w0 := by
  intro l J W o hW ho hJ hY h0
  have hciW := (hW.cell (p := ⟨bi, 0, none⟩) hbi).trans hci
  have HY : Hid _ := hY
  have HO : Hid _ := ho
  have HW : Hid _ := hW
  have HJ : Hid _ := hJ
  have HK : Hid _ := hkeep
  have HCK : Hid _ := hck
  have HBK : Hid _ := hbk
  clear hY ho hW hJ hkeep hci hck hbk
  have hb1 : Below W.heap.size W (W.alloc (.cells #[.func (.yield l) #[] #[]] 87)) := below_alloc _ _
  have hci1 : (W.alloc (.cells #[.func (.yield l) #[] #[]] 87)).cell? ⟨bi, 0, none⟩ = some (.func (.func gi) #[] lbi) := (hb1.cell (p := ⟨bi, 0, none⟩) (Nat.lt_of_lt_of_le hbi HW.out.size)).trans hciW
  have hcy1 : (W.alloc (.cells #[.func (.yield l) #[] #[]] 87)).cell? ⟨W.heap.size, 0, none⟩ = some (.func (.yield l) #[] #[]) := by simp
  have hs1 : (W.alloc (.cells #[.func (.yield l) #[] #[]] 87)).heap.size = W.heap.size + 1 := by simp
  refine (callsIn_wide (n := 0)).1 (callsIn_of_wp_marks Tryz.func68 rfl trivial ?_ rfl)
  simp only [Tryz.ntmps68, List.size_toArray, List.length_cons, List.length_nil, Nat.reduceAdd, Nat.reduceSub, Array.replicate_succ, Array.replicate_zero, List.push_toArray, List.append_toArray, List.nil_append, List.cons_append]
  gi_wp2
  obtain ⟨w1, hw1⟩ : ∃ w1, W.alloc (.cells #[.func (.yield l) #[] #[]] 87) = w1 := ⟨_, rfl⟩
  rw [hw1] at hb1 hci1 hcy1 hs1
  rw [hw1]
  clear hw1
  have H1 : Hid (w1.heap.size = W.heap.size + 1) := hs1
  have H2 : Hid (Below W.heap.size W w1) := hb1
  clear hs1 hb1 hci1
  refine wp_range rowEl (gf := gi) (lb := lbi) rfl egi hseq (HW.out.trans (H2.out.mono HW.out.size)) rfl
    (fun pre o1 W' => J (pre.filter (fun r => p r.xs)) o1 W' ∧ Kept (fun b => ¬ o b) W W' ∧ (∀ b, o1 b → o b ∨ (W.heap.size ≤ b ∧ b < W'.heap.size)) ∧ W'.cell? ⟨W.heap.size, 0, none⟩ = some (.func (.yield l) #[] #[]) ∧ ¬ o1 W.heap.size)
    o ?_ ?_ ?_ (fun x => { tmps := #[.func (.yield l) #[] #[], .pointer (some ⟨bi, 0, none⟩), .pointer (some ⟨bk, 0, none⟩), .pointer (some ⟨W.heap.size, 0, none⟩), x.val, .func (.func gi) #[] lbi, x.val, undef, undef, undef, undef, undef, undef, undef, undef, undef], defers := [] }) ?assign ?body ?done
  · intro b hb
    exact ⟨(HO.out b hb).1, by have := (HO.out b hb).2; have := H1.out; omega⟩
  · rintro pre o1 A B ⟨hj, hk, hg, hc, hn⟩ hkk
    have h1 := H1.out
    refine ⟨HJ.out _ _ _ _ hj (hkk.mono fun b _ h => h.imp id (by omega)), hk.trans' hkk (fun b hb _ => .inr (by omega)), fun b h => (hg b h).imp id (fun h => ⟨h.1, by have := hkk.size; omega⟩), cell_keep hc hkk (.inr (by show W.heap.size < _; omega)), hn⟩
  · have h1 := H1.out
    refine ⟨HJ.out _ _ _ _ h0 (Kept.of_below H2.out fun b hb h => by rcases h with h | h; exact (HO.out b h).2; exact h), Kept.of_below H2.out (fun b hb _ => hb), fun b h => .inl h, hcy1, fun h => by have := (HO.out _ h).2; omega⟩
  case assign =>
    intro l x W K hK
    gi_wp2
    exact hK
  case body =>
    rintro l2 pre x o1 W2 ⟨hj, hk, hg, hcy, hn⟩ hpre hx hoff hsz
    have h1 := H1.out
    have hbw : Below w0.heap.size w0 W2 := HW.out.trans (hk.below HW.out.size (fun i hi h => by have := (HO.out i h).1; omega))
    have hck2 : W2.cell? ⟨bk, 0, none⟩ = some (.func (.func gk) #[] lbk) := (hbw.cell (p := ⟨bk, 0, none⟩) HBK.out).trans HCK.out
    have hkk := HK.out W2 x hbw hx.1 (mem_of_pre hpre)
    have HX : Hid _ := hx
    have HF : Hid _ := hoff
    have HP : Hid _ := hpre
    have hsn : (pre ++ [x]).filter (fun r => p r.xs) = pre.filter (fun r => p r.xs) ++ if p x.xs then [x] else [] := by
      rw [List.filter_append]
      cases hp : p x.xs <;> simp [hp]
    by_cases hp : p x.xs = true
    · rw [hp] at hkk
      have HS : Hid ((pre ++ [x]).filter (fun r => p r.xs) = pre.filter (fun r => p r.xs) ++ [x]) := by rw [hsn, hp]; rfl
      have HPF : Hid _ := pre_filter p hpre hp
      clear hsn hp hpre hoff hx
      gi_wp2
      refine ⟨trivial, rfl, CallsIn.inRound l2 (callsIn_wide.2 (hkk.mono ?_))⟩
      rintro e W3 ⟨rfl, hb3⟩
      have hk3 : Kept (fun _ => True) W2 W3 := Kept.of_below hb3 (fun b hb _ => hb)
      have hj3 := HJ.out _ _ _ _ hj (hk3.mono (fun _ _ _ => trivial))
      have hcy3 : W3.cell? ⟨W.heap.size, 0, none⟩ = some (.func (.yield l) #[] #[]) := cell_keep hcy hk3 trivial
      obtain ⟨fn, tmps, assign, body, hy, hR⟩ := HY.out _ x o1 W3 hj3 HPF.out (rowEl.keep HX.out hk3.size (fun b hb _ => hk3.block b hb trivial)) (fun b h => ⟨(HF.out b h).1, (HF.out b h).2.imp id (by omega)⟩) (by have := hk.size; have := hk3.size; omega)
      have hy' : (Instr.yield l #[x.val]).run Tryz.prog W3 = .ok (.round l fn tmps assign body) W3 := hy
      clear hy hk3
      have HG : Hid _ := hg
      have HKW : Hid _ := hk
      have HB3 : Hid _ := hb3
      clear hg hk hb3 hcy hj hj3 hkk
      gi_wp2
      refine ⟨rfl, hR.mono ?_⟩
      rintro e W4 ⟨rfl, o2, hj4, hk4, hg4⟩
      have hs3 := HB3.out.size
      have hsW := HKW.out.size
      have hk34 : Kept (fun b => ¬ o1 b) W2 W4 := (Kept.of_below HB3.out (fun b hb _ => hb)).trans hk4
      gi_wp2
      refine ⟨o2, ⟨by rw [HS.out]; exact hj4, HKW.out.trans' hk34 ?_, ?_, ?_, ?_⟩, hk34, ?_⟩
      · intro b hb h h'
        rcases HG.out b h' with h' | h'
        · exact h h'
        · omega
      · intro b hb
        have hs4 := hk4.size
        rcases hg4 b hb with h | h | h
        · exact (HG.out b h).imp id (fun h => ⟨h.1, by omega⟩)
        · exact .inr ⟨by omega, h.2⟩
        · exact .inr ⟨h.2, by have := rowEl.inn HX.out h.1; omega⟩
      · exact cell_keep hcy3 hk4 hn
      · intro h
        rcases hg4 _ h with h | h | h
        · exact hn h
        · omega
        · rcases (HF.out _ h.1).2 with h' | h'
          · have := HW.out.size; omega
          · omega
      · intro b hb
        rcases hg4 b hb with h | h | h
        · exact .inl h
        · exact .inr (.inl ⟨by omega, h.2⟩)
        · refine .inr (.inr ⟨h.1, ?_⟩)
          rcases (HF.out _ h.1).2 with h' | h'
          · have := HW.out.size; omega
          · exact h'
    · have hp' : p x.xs = false := by simpa using hp
      rw [hp'] at hkk
      have hs0 : (pre ++ [x]).filter (fun r => p r.xs) = pre.filter (fun r => p r.xs) := by rw [hsn, hp']; simp
      have HS : Hid ((pre ++ [x]).filter (fun r => p r.xs) = pre.filter (fun r => p r.xs)) := hs0
      clear hsn hp hpre hoff hx hp' hs0
      gi_wp2
      refine ⟨trivial, rfl, CallsIn.inRound l2 (callsIn_wide.2 (hkk.mono ?_))⟩
      rintro e W3 ⟨rfl, hb3⟩
      have hk3 : Kept (fun _ => True) W2 W3 := Kept.of_below hb3 (fun b hb _ => hb)
      have hj3 := HJ.out _ _ _ _ hj (hk3.mono (fun _ _ _ => trivial))
      have hcy3 : W3.cell? ⟨W.heap.size, 0, none⟩ = some (.func (.yield l) #[] #[]) := cell_keep hcy hk3 trivial
      have HG : Hid _ := hg
      have HKW : Hid _ := hk
      have HK3 : Hid _ := hk3
      clear hg hk hb3 hcy hj hkk hk3
      gi_wp2
      refine ⟨fun _ h => (by cases h), ?_⟩
      gi_wp2
      exact ⟨o1, ⟨by rw [HS.out]; exact hj3, HKW.out.trans (HK3.out.mono fun _ _ _ => trivial), fun b h => (HG.out b h).imp id (fun h => ⟨h.1, by have := HK3.out.size; omega⟩), hcy3, hn⟩, HK3.out.mono (fun _ _ _ => trivial), fun b h => .inl h⟩
  case done =>
    rintro ys o' W2 hys ⟨hj, hk, hg, hcy, hn⟩ hk2 hg2 hD
    have h1 := H1.out
    gi_wp2
    have hnD : ¬ o' w1.heap.size := fun h => by
      rcases hg2 _ h with h | h
      · have := (HO.out _ h).2; omega
      · omega
    have hkD : Kept (fun b => b ≠ w1.heap.size) W2 (W2.putObj w1.heap.size (.deferred none)) := Kept.putObj _ _ (fun h => h rfl)
    refine ⟨by simp, .inl ⟨_, _, rfl, run_takeDeferred hD, ?_⟩⟩
    refine ⟨_, results_none rfl _ _ _, ⟨_, rfl⟩, ys.filter (fun r => p r.xs), o', ?_, HJ.out _ _ _ _ hj (hkD.mono fun b _ h => ?_), hk.trans' hkD (fun b hb _ => by omega), fun b h => (hg b h).imp id (fun h => ⟨h.1, by rw [World.putObj_size]; omega⟩)⟩
    · rw [← hys, List.filter_map]
      rfl
    · rcases h with h | h
      · intro e; exact hnD (e ▸ h)
      · omega

end Go.Proofs.YtlpbelhfpoilpaaGreat

namespace Go.Scout
open Go.RowKit

theorem Kept.setCell {s : Nat → Prop} (W : World) (a : Addr) (v : Value) (hr : ¬ s a.block) : Kept s W (W.setCell a v) :=
  ⟨rfl, rfl, rfl, by simp [World.setCell], fun k _ hs => Below.heap_setCell W a v k (fun e => hr (e ▸ hs))⟩
theorem Kept.grown {s : Nat → Prop} {A B : World} {row : Option Nat} (hg : A.grownBy B row) (hr : ∀ r, row = some r → ¬ s r) : Kept s A B :=
  ⟨hg.os, hg.tape, hg.output, hg.size, fun k hk hs => hg.block k hk (fun e => hr k e.symm hs)⟩

theorem ownsRow_keep {A B : World} {base : Nat} {e : TypeId} {sz : Nat} {v : Value} {n : Nat} {xs : List Value} (h : A.ownsRow base e sz v n xs) {s : Nat → Prop} (hk : Kept s A B) (hs : ∀ g, v.ownBlock = some g → s g) : B.ownsRow base e sz v n xs := by
  refine ⟨h.1, ?_⟩
  rcases h.2 with h | ⟨g, cap, cur, rfl, hb, hg, h1, h2, h3, h4⟩
  · exact .inl h
  · exact .inr ⟨g, cap, cur, rfl, hb, (hk.block g (Array.getElem?_eq_some_iff.1 hg).1 (hs g rfl)).trans hg, h1, h2, h3, h4⟩

theorem ownsRow_lt {A : World} {base : Nat} {e : TypeId} {sz : Nat} {v : Value} {n : Nat} {xs : List Value} (h : A.ownsRow base e sz v n xs) {g : Nat} (hg : v.ownBlock = some g) : base ≤ g ∧ g < A.heap.size := by
  rcases h.2 with ⟨rfl, _⟩ | ⟨g', cap, cur, rfl, hb, hg', _⟩
  · cases hg
  · cases hg
    exact ⟨hb, (Array.getElem?_eq_some_iff.1 hg').1⟩

theorem ownsRow_slice {A : World} {base : Nat} {e : TypeId} {sz : Nat} {v : Value} {n : Nat} {xs : List Value} (h : A.ownsRow base e sz v n xs) : ∃ ad m cap, v = .slice ad m cap := by
  rcases h.2 with ⟨rfl, _⟩ | ⟨g', cap, cur, rfl, _⟩
  · exact ⟨_, _, _, rfl⟩
  · exact ⟨_, _, _, rfl⟩

/-- Whose blocks are the one who gathers: the box, the list's, those of rows that are new. -/
def gatherOwn (E : El IntsV (List Int)) (n : Nat) (v : Value) (pre : List IntsV) (b : Nat) : Prop := b = n ∨ v.ownBlock = some b ∨ (n ≤ b ∧ ∃ y ∈ pre, E.blk y = some b)

/-- No two rows lie in one block, of those that are new. -/
def Apart (E : El IntsV (List Int)) (n : Nat) (ys : List IntsV) : Prop := ys.Pairwise fun y z => ∀ b, E.blk y = some b → E.blk z = some b → b < n

structure Gathered (E : El IntsV (List Int)) (n0 : Nat) (w : World) (e : TypeId) (pre : List IntsV) (o1 : Nat → Prop) (W : World) (v : Value) : Prop where
  box : W.cell? ⟨w.heap.size, 0, none⟩ = some v
  thaw : W.frozen? ⟨w.heap.size, 0, none⟩ = false
  own : W.ownsRow (w.heap.size + 1) e 1 v pre.length (pre.map IntsV.val)
  at' : ∀ y ∈ pre, E.At y W
  off : ∀ y ∈ pre, ∀ b, E.blk y = some b → b ≠ w.heap.size ∧ v.ownBlock ≠ some b
  apart : Apart E w.heap.size pre
  born : ∀ y ∈ pre, ∀ b, E.blk y = some b → b < n0 ∨ w.heap.size ≤ b
  below : Below w.heap.size w W
  iff : ∀ b, o1 b ↔ gatherOwn E w.heap.size v pre b

theorem Gathered.keep {E : El IntsV (List Int)} {n0 : Nat} {w : World} {e : TypeId} {pre : List IntsV} {o1 : Nat → Prop} {A B : World} {v : Value} (h : Gathered E n0 w e pre o1 A v) {n : Nat} (hn : w.heap.size ≤ n) (hk : Kept (fun b => o1 b ∨ b < n) A B) : Gathered E n0 w e pre o1 B v := by
  have ho : o1 w.heap.size := (h.iff _).2 (.inl rfl)
  refine ⟨cell_keep h.box hk (.inl ho), (World.frozen?_of_block (hk.block _ (cell_lt h.box) (.inl ho))).trans h.thaw, ownsRow_keep h.own hk (fun g hg => .inl ((h.iff _).2 (.inr (.inl hg)))), fun y hy => ?_, h.off, h.apart, h.born, h.below.trans (hk.below h.below.size (fun b hb => .inr (by omega))), h.iff⟩
  refine E.keep (h.at' y hy) hk.size (fun b hb hby => hk.block b hb ?_)
  by_cases hlt : b < w.heap.size
  · exact .inr (by omega)
  · exact .inl ((h.iff _).2 (.inr (.inr ⟨by omega, y, hy, hby⟩)))

theorem Gathered.off' {E : El IntsV (List Int)} {n0 : Nat} {w : World} {e : TypeId} {pre : List IntsV} {o1 : Nat → Prop} {W : World} {v : Value} (h : Gathered E n0 w e pre o1 W v) {x : IntsV} (hx : ∀ b, E.blk x = some b → ¬ o1 b) :
    (∀ b, E.blk x = some b → b ≠ w.heap.size ∧ v.ownBlock ≠ some b) ∧ Apart E w.heap.size (pre ++ [x]) := by
  refine ⟨fun b hb => ⟨fun e => hx b hb ((h.iff _).2 (.inl e)), fun e => hx b hb ((h.iff _).2 (.inr (.inl e)))⟩, ?_⟩
  unfold Apart
  rw [List.pairwise_append]
  refine ⟨h.apart, List.pairwise_singleton _ _, ?_⟩
  intro y hy z hz b hb hb'
  rw [List.mem_singleton] at hz
  subst hz
  by_cases hlt : b < w.heap.size
  · exact hlt
  · exact absurd ((h.iff _).2 (.inr (.inr ⟨by omega, y, hy, hb⟩))) (hx b hb')

/-- One row more: the list has grown, the box holds it. -/
theorem Gathered.more {E : El IntsV (List Int)} {n0 : Nat} {w : World} {e : TypeId} {pre : List IntsV} {o1 : Nat → Prop} {W W1 W2 : World} {v v' : Value} {x : IntsV} (h : Gathered E n0 w e pre o1 W v) (hx : E.At x W) (hoff : ∀ b, E.blk x = some b → ¬ o1 b) (hbn : ∀ b, E.blk x = some b → b < n0 ∨ w.heap.size ≤ b)
    (ha : Kept (fun _ => True) W W1) (hs1 : W1.heap.size = W.heap.size + 1) (hown : W2.ownsRow (w.heap.size + 1) e 1 v' (pre.length + 1) (pre.map IntsV.val ++ [x.val])) (hg : W1.grownBy W2 v.ownBlock) (hat : v'.ownBlock = v.ownBlock ∨ v'.ownBlock = some W1.heap.size) (h1 : v'.oneCell' = true) :
    Gathered E n0 w e (pre ++ [x]) (gatherOwn E w.heap.size v' (pre ++ [x])) (W2.setCell ⟨w.heap.size, 0, none⟩ v') v' ∧ Kept (fun b => ¬ o1 b) W (W2.setCell ⟨w.heap.size, 0, none⟩ v') ∧
    ∀ b, gatherOwn E w.heap.size v' (pre ++ [x]) b → o1 b ∨ (W.heap.size ≤ b ∧ b < (W2.setCell ⟨w.heap.size, 0, none⟩ v').heap.size) ∨ (E.blk x = some b ∧ w.heap.size ≤ b) := by
  have hw : w.heap.size < W.heap.size := cell_lt h.box
  have hsz : (W2.setCell ⟨w.heap.size, 0, none⟩ v').heap.size = W2.heap.size := by simp [World.setCell]
  have hvb : ∀ g, v.ownBlock = some g → w.heap.size + 1 ≤ g ∧ g < W.heap.size := fun g hg => ownsRow_lt h.own hg
  have hvb' : ∀ g, v'.ownBlock = some g → w.heap.size + 1 ≤ g ∧ g < W2.heap.size := fun g hg => ownsRow_lt hown hg
  have hk1 : Kept (fun b => v.ownBlock ≠ some b) W W2 := (ha.mono fun _ _ _ => trivial).trans (Kept.grown hg (fun r e hr => hr e))
  have hk2 : Kept (fun b => v.ownBlock ≠ some b ∧ b ≠ w.heap.size) W (W2.setCell ⟨w.heap.size, 0, none⟩ v') := (hk1.mono fun _ _ h => h.1).trans (Kept.setCell _ _ _ (fun h => h.2 rfl))
  obtain ⟨hoffx, hap⟩ := h.off' hoff
  have hnew : ∀ b, b < W.heap.size → v'.ownBlock = some b → v.ownBlock = some b := fun b hb e => by
    rcases hat with h | h
    · rw [← h]; exact e
    · rw [h] at e; cases e; omega
  have hbx : W2.cell? ⟨w.heap.size, 0, none⟩ = some v := cell_keep h.box hk1 (fun e => by have := hvb _ e; exact absurd this.1 (by show ¬ (w.heap.size + 1 ≤ w.heap.size); omega))
  refine ⟨⟨?_, ?_, ?_, ?_, ?_, hap, fun y hy => ?_, ?_, fun b => Iff.rfl⟩, hk2.mono ?_, ?_⟩
  · exact World.cell?_setCell_same' _ _ _ (by rw [hbx]; rfl)
  · rw [World.frozen?_setCell]
    exact (World.frozen?_of_block (hk1.block _ (cell_lt h.box) (fun e => by have := hvb _ e; exact absurd this.1 (by show ¬ (w.heap.size + 1 ≤ w.heap.size); omega)))).trans h.thaw
  · have := ownsRow_keep hown (s := fun b => b ≠ w.heap.size) (Kept.setCell W2 ⟨w.heap.size, 0, none⟩ v' (fun h => h rfl)) (fun g hg => by have := hvb' g hg; omega)
    simpa using this
  · intro y hy
    rcases List.mem_append.1 hy with hy | hy
    · exact E.keep (h.at' y hy) hk2.size (fun b hb hby => hk2.block b hb ⟨(h.off y hy b hby).2, (h.off y hy b hby).1⟩)
    · rw [List.mem_singleton] at hy
      subst hy
      exact E.keep hx hk2.size (fun b hb hby => hk2.block b hb ⟨(hoffx b hby).2, (hoffx b hby).1⟩)
  · intro y hy b hb
    have hbl : b < W.heap.size ∧ b ≠ w.heap.size ∧ v.ownBlock ≠ some b := by
      rcases List.mem_append.1 hy with hy | hy
      · exact ⟨E.inn (h.at' y hy) hb, h.off y hy b hb⟩
      · rw [List.mem_singleton] at hy
        subst hy
        exact ⟨E.inn hx hb, hoffx b hb⟩
    exact ⟨hbl.2.1, fun e => hbl.2.2 (hnew b hbl.1 e)⟩
  · rcases List.mem_append.1 hy with hy | hy
    · exact h.born y hy
    · rw [List.mem_singleton] at hy
      subst hy
      exact hbn
  · exact h.below.trans (hk2.below (by have := h.below.size; omega) (fun b hb => ⟨fun e => by have := hvb b e; omega, by omega⟩))
  · intro b hb hb'
    exact ⟨fun e => hb' ((h.iff _).2 (.inr (.inl e))), fun e => hb' ((h.iff _).2 (.inl e))⟩
  · rintro b (hb | hb | ⟨hb, y, hy, hby⟩)
    · exact .inl ((h.iff _).2 (.inl hb))
    · by_cases hlt : b < W.heap.size
      · exact .inl ((h.iff _).2 (.inr (.inl (hnew b hlt hb))))
      · exact .inr (.inl ⟨by omega, by rw [hsz]; exact (hvb' b hb).2⟩)
    · rcases List.mem_append.1 hy with hy | hy
      · exact .inl ((h.iff _).2 (.inr (.inr ⟨hb, y, hy, hby⟩)))
      · rw [List.mem_singleton] at hy
        subst hy
        exact .inr (.inr ⟨hby, hb⟩)

end Go.Scout
namespace Go.Proofs.YtlpbelhfpoilpaaGreat
open Go.RowKit Go.Scout Go.Shelf

attribute [local go_sem] Oper.semAt_some

theorem Tryz.infoInts : (Tryz.prog.info? 23).map (fun i => (i.zero, i.size, i.bytes)) = some (some (.slice none 0 0), 1, 24) := by kernel_rfl

set_option maxRecDepth 100000 in
set_option maxHeartbeats 4000000 in
/-- rows.Gather: a new list, of the rows that come. -/
theorem gather_any (E : El IntsV (List Int)) (henc : ∀ x, E.enc x = x.val) (g : Nat) (lb : Array Value) (rows : List (List Int)) (w0 w : World) (hb0 : Below w0.heap.size w0 w) (hlen : rows.length ≤ 1000000) (hseq : Seq E Tryz.prog g lb rows w0) (eg : ∀ args w, (callFunc g args).run Tryz.prog w = .ok (.enter g args) w) :
    Calls Tryz.prog 18 #[.func (.func g) #[] lb] w fun e w' => ∃ v ys o, e = .returned v ∧ ys.map E.key = rows ∧ Gathered E w0.heap.size w 23 ys o w' v := by
  obtain ⟨i0, hi, hz0, hz1, hz2⟩ := info_parts Tryz.infoInts
  have HL : Hid _ := hlen
  have HB0 : Hid _ := hb0
  clear hlen hb0
  have H1 : Hid ((w.alloc (.cells #[.slice none 0 0] 29)).heap.size = w.heap.size + 1) := by show _ = _; simp
  have H2 : Hid (Below w.heap.size w (w.alloc (.cells #[.slice none 0 0] 29))) := below_alloc _ _
  refine (callsIn_wide (n := 0)).1 (callsIn_of_wp_marks Tryz.func18 rfl trivial ?_ rfl)
  simp only [Tryz.ntmps18, List.size_toArray, List.length_cons, List.length_nil, Nat.reduceAdd, Nat.reduceSub, Array.replicate_succ, Array.replicate_zero, List.push_toArray, List.append_toArray, List.nil_append, List.cons_append]
  gi_wp2
  have hG : Gathered E w0.heap.size w 23 [] (gatherOwn E w.heap.size (.slice none 0 0) []) (w.alloc (.cells #[.slice none 0 0] 29)) (.slice none 0 0) :=
    ⟨by simp, by simp, World.ownsRow_nil _ _ _ _, fun _ h => by simp at h, fun _ h => by simp at h, List.Pairwise.nil, fun _ h => by simp at h, H2.out, fun _ => Iff.rfl⟩
  obtain ⟨w1, hw1⟩ : ∃ w1, w.alloc (.cells #[.slice none 0 0] 29) = w1 := ⟨_, rfl⟩
  rw [hw1] at hG H1 H2
  rw [hw1]
  clear hw1
  refine wp_range E (gf := g) (lb := lb) rfl eg hseq (HB0.out.trans (H2.out.mono HB0.out.size)) rfl
    (fun pre o1 W => ∃ v, Gathered E w0.heap.size w 23 pre o1 W v) (gatherOwn E w.heap.size (.slice none 0 0) []) ?_ ?_ ⟨_, hG⟩
    (fun x => { tmps := #[.func (.func g) #[] lb, undef, .slice none 0 0, .pointer (some ⟨w.heap.size, 0, none⟩), x.val, .func (.func g) #[] lb, x.val, undef, undef, undef, undef, undef], defers := [] }) ?assign ?body ?done
  · rintro b (h | h | ⟨_, y, hy, _⟩)
    · have := H1.out; have := HB0.out.size; omega
    · cases h
    · simp at hy
  · rintro pre o1 A B ⟨v, h⟩ hk
    exact ⟨v, h.keep (by have := H1.out; omega) hk⟩
  case assign =>
    intro l x W K hK
    have he : E.enc x = x.val := henc x
    gi_wp2
    exact hK
  case body =>
    rintro l pre x o1 W ⟨v, hG⟩ hpre hx hoff hsz
    have hpl : pre.length + 1 ≤ 1000000 := by
      have := hpre.length_le
      rw [List.length_map, List.length_append] at this
      exact Nat.le_trans this HL.out
    obtain ⟨va, vn, vc, rfl⟩ := ownsRow_slice hG.own
    have hc := hG.box
    have hown := hG.own
    have HG : Hid _ := hG
    have HX : Hid _ := hx
    have HF : Hid _ := hoff
    have HP : Hid _ := hpre
    have hbs := hG.below.size
    have hth := hG.thaw
    clear hG hx hoff hpre
    obtain ⟨xad, xcap, xxs⟩ := x
    unfold IntsV.val
    simp only
    gi_wp2_with (gi_at_builtin; refine wpListIn_append_own_at _ rfl _ _ 29 rfl (w.heap.size + 1) 23 i0 (.slice none 0 0) 1 24 Tryz.underlying29 hi hz0 hz1 hz2 rfl (by decide) _ _ _ rfl (hown.alloc _) ⟨W.heap.size, 0, none⟩ 1 1 [.slice xad xxs.length xcap] rfl rfl ?q1 ?q2 ?q3 ?q4 ?q5 ?_)
    case q1 =>
      intro j u hj
      match j, hj with
      | 0, hj => simp at hj; subst hj; simp [Addr.add]
    case q2 => intro u hu; simp at hu; subst hu; rfl
    case q3 => unfold maxLen; omega
    case q4 => omega
    case q5 => simp; omega
    intro v' w3 hown3 hgrow3 _ hat3
    obtain ⟨va', vn', vc', rfl⟩ := ownsRow_slice hown3
    have M := HG.out.more HX.out (fun b hb => (HF.out b hb).1) (fun b hb => (HF.out b hb).2.imp id (by have := H1.out; omega)) (Kept.alloc _ _) (by simp) hown3 hgrow3 (by rw [World.size_alloc]; exact hat3) rfl
    have h1 := H1.out
    have hc3 : w3.cell? ⟨w.heap.size, 0, none⟩ = some (.slice va vn vc) := by
      refine cell_keep (cell_keep hc (Kept.alloc (s := fun _ => True) W _) trivial) (Kept.grown (s := fun b => (Value.slice va vn vc).ownBlock ≠ some b) hgrow3 (fun r e hr => hr e)) ?_
      intro e
      have := (ownsRow_lt HG.out.own e).1
      exact absurd this (by show ¬ (w.heap.size + 1 ≤ w.heap.size); omega)
    have hf3 : w3.frozen? ⟨w.heap.size, 0, none⟩ = false := by
      refine (World.frozen?_of_block (Eq.trans (hgrow3.block _ (by simp; omega) ?_) (Below.heap_alloc W _ _ (by show w.heap.size < _; omega)))).trans hth
      intro e
      have := (ownsRow_lt HG.out.own e.symm).1
      exact absurd this (by show ¬ (w.heap.size + 1 ≤ w.heap.size); omega)
    have HM : Hid _ := M
    clear M hown3 hgrow3 hat3 hown
    gi_wp2
    obtain ⟨m1, m2, m3⟩ := HM.out
    refine ⟨_, ⟨_, m1⟩, m2, fun b hb => ?_⟩
    rcases m3 b hb with h | h | ⟨h, h'⟩
    · exact .inl h
    · exact .inr (.inl h)
    · refine .inr (.inr ⟨h, ?_⟩)
      rcases (HF.out b h).2 with h'' | h''
      · have := HB0.out.size; omega
      · exact h''
  case done =>
    rintro ys o' W2 hys ⟨v, hG⟩ hk2 hg2 hD
    have hc := hG.box
    have h1 := H1.out
    gi_wp2
    have hnD : ¬ o' w1.heap.size := fun h => by
      rcases hg2 _ h with (h | h | ⟨_, y, hy, _⟩) | h
      · omega
      · cases h
      · simp at hy
      · omega
    refine ⟨by simp, .inl ⟨_, _, rfl, run_takeDeferred hD, ?_⟩⟩
    refine ⟨_, results_tmp rfl _ _ _, v, ys, o', rfl, hys, hG.keep (n := w1.heap.size) (by omega) (Kept.putObj _ _ ?_)⟩
    rintro (h | h)
    · exact hnD h
    · omega

end Go.Proofs.YtlpbelhfpoilpaaGreat

