import Derived.Deep.RegionHeld3
import Derived.Deep.RegionLaw
import Derived.Deep.AppendLies
import Derived.Deep.DrawnRows
import Derived.Test.YtdbkdomhlkcbpaaCBaseBase2Base3Base4
import Derived.Test.YtdbkdomhlkcbpaaCBase7MkrBMkrCMkrD
import Derived.Test.YtdbkdomhlkcbpaaCCond
set_option linter.all false
namespace Go.Proofs.Ytdbkdomhlkcbpaa
open Go.RowKit Go.Scout

set_option maxHeartbeats 2000000 in
theorem isCatalog_any (ao : Option Addr) (cap : Nat) (ts : List TableD) (w : World) (hx : TablesAt w ao ts) :
    Calls Try.prog 23 #[.slice ao ts.length cap] w fun e w' => e = .returned (.bool (catB ts)) ∧ Below w.heap.size w w' := by
  have hl := hx.1
  by_cases h0 : ts.length < 1
  · go_enter Try.func23, Try.ntmps23
    go_wp2
    go_ret
    exact ⟨ret_bool (catB_short h0), Below.refl _ _⟩
  by_cases h8 : 8 < ts.length
  · go_enter Try.func23, Try.ntmps23
    go_wp2
    go_ret
    exact ⟨ret_bool (catB_long h8), Below.refl _ _⟩
  go_enter Try.func23, Try.ntmps23
  go_wp2
  go_loopw [3] (fun i wr => ∃ k : Nat, k ≤ ts.length ∧ i = .int .i64 k ∧ Hid ((ts.take k).all tableB = true) ∧ Below w.heap.size w wr) (fun i _ => ts.length - (intOf i).toNat)
  case atStart => exact ⟨0, Nat.zero_le _, rfl, rfl, Below.refl _ _⟩
  case round =>
    obtain ⟨k, hk, rfl, HP, hb⟩ := hrel
    by_cases hlt : k < ts.length
    · obtain ⟨b, off, rfl, c0, c1, c2, c3, c4, c5⟩ := hx.2 k hlt
      have hbw : b < w.heap.size := lt_of_cell c0
      have e0 := (hb.cell (p := ⟨b, off + k * 6, none⟩) hbw).trans c0
      have e1 := (hb.cell (p := ⟨b, off + k * 6 + 1, none⟩) hbw).trans c1
      have e2 := (hb.cell (p := ⟨b, off + k * 6 + 2, none⟩) hbw).trans c2
      have e3 := (hb.cell (p := ⟨b, off + k * 6 + 3, none⟩) hbw).trans c3
      have e4 := (hb.cell (p := ⟨b, off + k * 6 + 4, none⟩) hbw).trans c4
      have e5 := (hb.cell (p := ⟨b, off + k * 6 + 5, none⟩) hbw).trans c5
      clear c0 c1 c2 c3 c4 c5 hx
      generalize ht : ts.getD k tz = t at *
      have HT : Hid (ts.getD k tz = t) := ht
      clear ht
      have hsz := hb.size
      by_cases h1 : t.cols < 1 ∨ 4 < t.cols ∨ t.rows < 0 ∨ 1000000 < t.rows
      · have HF : Hid (false = catB ts) := catB_bad hlt (by rw [HT.out]; exact tableB_bad h1)
        go_wp2
        all_goals
          go_ret
          exact ⟨ret_bool HF.out, hb.alloc hsz _⟩
      · have l1 : 1 ≤ t.cols := by omega
        have l2 : t.cols ≤ 4 := by omega
        have l3 : 0 ≤ t.rows := by omega
        have l4 : t.rows ≤ 1000000 := by omega
        clear h1
        go_wp2
        go_loop [5] (fun i => ∃ m : Nat, m ≤ t.cols.toNat ∧ i = .int .i64 m ∧ Hid (∀ j, j < m → 1 ≤ t.kd j ∧ t.kd j ≤ 1000000)) (fun i => t.cols.toNat - (intOf i).toNat)
        case atStart => exact ⟨0, Nat.zero_le _, rfl, fun j hj => absurd hj (by omega)⟩
        case round =>
          obtain ⟨m, hm, rfl, HM⟩ := hrel
          by_cases hml : m < t.cols.toNat
          · have hml' : (m : Int) < t.cols := by omega
            have hm4 : m < 4 := by omega
            have hkd := TableD.kd_cell wr t 60 m hm4
            by_cases hk1 : t.kd m < 1
            · have HF : Hid (false = catB ts) := catB_bad hlt (by rw [HT.out]; exact tableB_badk m hml (by omega))
              go_wp2
              go_ret
              exact ⟨ret_bool HF.out, hb.alloc hsz _⟩
            · by_cases hk2 : 1000000 < t.kd m
              · have HF : Hid (false = catB ts) := catB_bad hlt (by rw [HT.out]; exact tableB_badk m hml (by omega))
                go_wp2
                go_ret
                exact ⟨ret_bool HF.out, hb.alloc hsz _⟩
              · go_wp2
                go_round
                case rel =>
                  refine ⟨m + 1, by omega, by go_num, fun j hj => ?_⟩
                  by_cases hjm : j = m
                  · subst hjm; omega
                  · exact HM.out j (by omega)
                case measure => simp [intOf]; omega
          · have hml' : ¬ (m : Int) < t.cols := by omega
            have HG : Hid (tableB t = true) := tableB_good l1 l2 l3 l4 (fun j hj => HM.out j (by omega))
            go_wp2
            go_roundw
            case rel => exact ⟨k + 1, by omega, by go_num, all_step (z := tz) hlt HP.out (by rw [HT.out]; exact HG.out), hb.alloc hsz _⟩
            case measure => simp [intOf]; omega
    · go_wp2
      go_ret
      exact ⟨ret_bool (catB_good h0 h8 hk hlt HP.out), hb⟩

end Go.Proofs.Ytdbkdomhlkcbpaa

namespace Go.Proofs.Ytdbkdomhlkcbpaa
open Go.RowKit Go.Scout

set_option maxHeartbeats 2000000 in
theorem width_any (ao : Option Addr) (cap : Nat) (ts : List TableD) (q : QueryV) (w : World) (hx : TablesAt w ao ts) (hc : catB ts = true) (hq : q.src.At w) (h5 : q.src.xs.length ≤ 5) (ha : allB q.src.xs ts.length = true) :
    Calls Try.prog 25 #[.slice ao ts.length cap, .agg q.cells, .int .i64 q.src.xs.length] w fun e w' => e = .returned (.int .i64 (widthN ts q.src.xs)) ∧ Below w.heap.size w w' := by
  obtain ⟨⟨sad, scap, xs⟩, wad, wcap, wh, group, keys, sums, sel, ord⟩ := q
  unfold IntsV.At at hq
  simp only at h5 ha hq
  unfold QueryV.cells IntsV.val
  simp only
  have hl := hx.1
  have HC : Hid (catB ts = true) := hc
  have HA : Hid (allB xs ts.length = true) := ha
  clear hc ha
  go_enter Try.func25, Try.ntmps25
  go_wp2
  go_loop [7, 8] (fun n i => ∃ k : Nat, k ≤ xs.length ∧ i = .int .i64 k ∧ n = .int .i64 (widthN ts (xs.take k))) (fun _ i => xs.length - (intOf i).toNat)
  case atStart => exact ⟨0, Nat.zero_le _, rfl, rfl⟩
  case round =>
    obtain ⟨k, hk, rfl, rfl⟩ := hrel
    have hbd := widthN_bd HC.out HA.out k hk
    by_cases hlt : k < xs.length
    · obtain ⟨sb, soff, rfl, hs⟩ := hq.get hlt
      have hsk := cell_alloc (hs k hlt)
      have hr := allB_at HA.out hlt
      have hcol := cols_of HC.out (i := xs[k].toNat) (by omega)
      obtain ⟨b, off, rfl, c0, -⟩ := hx.2 xs[k].toNat (by omega)
      have hck := cell_alloc c0
      have HS : Hid (widthN ts (xs.take (k + 1)) = widthN ts (xs.take k) + (ts.getD xs[k].toNat tz).cols) := widthN_snoc ts xs k hlt
      generalize (ts.getD xs[k].toNat tz).cols = cc at *
      generalize widthN ts (xs.take k) = W0 at *
      clear hs c0 hx hq
      go_wp2
      go_round
      case rel => exact ⟨k + 1, by omega, by go_num, by rw [HS.out]⟩
      case measure => simp [intOf]; omega
    · go_wp2
      go_ret
      have : k = xs.length := by omega
      subst this
      exact ⟨ret_int (by rw [List.take_length]), (Below.refl _ _).alloc (Nat.le_refl _) _⟩

end Go.Proofs.Ytdbkdomhlkcbpaa

namespace Go.Scout
open Go.RowKit

theorem MakerAt.keepN {mb : Nat} {lo : Option Addr} {lc : Nat} {l : List Int} {A B : World} {s : Nat → Prop} (h : MakerAt mb lo lc l A) (hk : Kept s A B) (h1 : s mb) (h2 : ∀ a, lo = some a → s a.block) : MakerAt mb lo lc l B := by
  obtain ⟨k, hk1, hk2⟩ := h.num
  exact ⟨⟨k, hk1, cell_keep hk2 hk h1⟩, cell_keep h.lst hk h1, (World.frozen?_of_block (a := ⟨mb, 1, none⟩) (hk.block mb h.lt h1)).trans h.thaw, ⟨h.ints.1, h.ints.2.keep fun a ha hlt => hk.block _ hlt (h2 a ha)⟩, h.off⟩

end Go.Scout
namespace Go.Scout
open Go.RowKit

/-- What a case holds. -/
def caseA (cv : Value) (q : QueryV) (dv : Value) : Array Value := #[cv, q.src.val, .slice q.wad q.wh.length q.wcap, .bool q.group, q.keys.val, q.sums.val, q.sel.val, q.ord.val, dv]

end Go.Scout
namespace Go.Proofs.Ytdbkdomhlkcbpaa
open Go.RowKit Go.Scout

set_option maxRecDepth 20000 in
set_option maxHeartbeats 8000000 in
theorem columns_any (co : Option Addr) (cc : Nat) (ts : List TableD) (q : QueryV) (dv : Value) (hdv : ∃ a m c, dv = .slice a m c) (w : World) (hx : TablesAt w co ts) (hc : catB ts = true) (hq : q.src.At w) (h5 : q.src.xs.length ≤ 5) (ha : allB q.src.xs ts.length = true) :
    Calls Try.prog 12 #[.agg (caseA (.slice co ts.length cc) q dv)] w fun e w' => e = .returned (.int .i64 (widthN ts q.src.xs)) ∧ Below w.heap.size w w' := by
  obtain ⟨da, dm, dc, rfl⟩ := hdv
  obtain ⟨⟨sad, scap, xs⟩, wad, wcap, wh, group, keys, sums, sel, ord⟩ := q
  unfold IntsV.At at hq
  simp only at h5 ha hq
  unfold caseA IntsV.val
  simp only
  have hl := hx.1
  have HC : Hid (catB ts = true) := hc
  have HA : Hid (allB xs ts.length = true) := ha
  have hb := below_alloc w (.cells #[.slice co ts.length cc, .slice sad xs.length scap, .slice wad wh.length wcap, .bool group, .slice keys.ad keys.xs.length keys.cap, .slice sums.ad sums.xs.length sums.cap, .slice sel.ad sel.xs.length sel.cap, .slice ord.ad ord.xs.length ord.cap, .slice da dm dc] 41)
  have hX := hx.below hb
  have hQ := IntsAt.below hb hq
  have c0 : (w.alloc (.cells #[.slice co ts.length cc, .slice sad xs.length scap, .slice wad wh.length wcap, .bool group, .slice keys.ad keys.xs.length keys.cap, .slice sums.ad sums.xs.length sums.cap, .slice sel.ad sel.xs.length sel.cap, .slice ord.ad ord.xs.length ord.cap, .slice da dm dc] 41)).cell? ⟨w.heap.size, 0, none⟩ = some (.slice co ts.length cc) := by simp
  have c1 : (w.alloc (.cells #[.slice co ts.length cc, .slice sad xs.length scap, .slice wad wh.length wcap, .bool group, .slice keys.ad keys.xs.length keys.cap, .slice sums.ad sums.xs.length sums.cap, .slice sel.ad sel.xs.length sel.cap, .slice ord.ad ord.xs.length ord.cap, .slice da dm dc] 41)).cell? ⟨w.heap.size, 1, none⟩ = some (.slice sad xs.length scap) := by simp
  have HB : Hid _ := hb
  clear hc ha hx hq hb
  go_enter Try.func12, Try.ntmps12
  go_wp2
  obtain ⟨w1, hw1⟩ : ∃ w1, w.alloc (.cells #[.slice co ts.length cc, .slice sad xs.length scap, .slice wad wh.length wcap, .bool group, .slice keys.ad keys.xs.length keys.cap, .slice sums.ad sums.xs.length sums.cap, .slice sel.ad sel.xs.length sel.cap, .slice ord.ad ord.xs.length ord.cap, .slice da dm dc] 41) = w1 := ⟨_, rfl⟩
  rw [hw1] at HB hX hQ c0 c1
  rw [hw1]
  clear hw1
  go_loopw [3, 4] (fun n i wr => ∃ k : Nat, k ≤ xs.length ∧ i = .int .i64 k ∧ n = .int .i64 (widthN ts (xs.take k)) ∧ Below w1.heap.size w1 wr) (fun _ i _ => xs.length - (intOf i).toNat)
  case atStart => exact ⟨0, Nat.zero_le _, rfl, rfl, Below.refl _ _⟩
  case round =>
    obtain ⟨k, hk, rfl, rfl, hbr⟩ := hrel
    have hbd := widthN_bd HC.out HA.out k hk
    have d0 := cell_below hbr c0
    have d1 := cell_below hbr c1
    by_cases hlt : k < xs.length
    · obtain ⟨sb, soff, rfl, hs⟩ := hQ.get hlt
      have hsk := cell_below hbr (hs k hlt)
      have hr := allB_at HA.out hlt
      have hcol := cols_of HC.out (i := xs[k].toNat) (by omega)
      obtain ⟨b, off, rfl, t0, -⟩ := hX.2 xs[k].toNat (by omega)
      have hck := cell_below hbr t0
      have HS : Hid (widthN ts (xs.take (k + 1)) = widthN ts (xs.take k) + (ts.getD xs[k].toNat tz).cols) := widthN_snoc ts xs k hlt
      generalize (ts.getD xs[k].toNat tz).cols = cl at *
      generalize widthN ts (xs.take k) = W0 at *
      have e1 : xs.getD k 0 = xs[k] := by simp [List.getD, hlt]
      rw [e1] at hsk
      clear hs t0 hX hQ e1
      generalize hxk : xs[k] = xk at *
      clear hxk
      obtain ⟨xn, rfl⟩ : ∃ xn : Nat, xk = (xn : Int) := ⟨xk.toNat, by omega⟩
      simp only [Int.toNat_natCast] at hck
      have hxl : xn < ts.length := by omega
      have hwr : wrap64 (W0 + cl) = W0 + cl := by unfold wrap64; omega
      go_wp2
      go_quiet (fail)
      go_wp2
      go_roundw
      case rel => exact ⟨k + 1, by omega, by go_num, by rw [HS.out], below_drewN hbr _⟩
      case measure => simp [intOf]; omega
    · go_wp2
      go_ret
      have : k = xs.length := by omega
      subst this
      exact ⟨ret_int (by rw [List.take_length]), HB.out.trans (hbr.mono HB.out.size)⟩

end Go.Proofs.Ytdbkdomhlkcbpaa

namespace Go.Scout
open Go.RowKit

theorem catB_len {ts : List TableD} (h : catB ts = true) : 1 ≤ ts.length ∧ ts.length ≤ 8 := by
  unfold catB at h
  simp only [Bool.and_eq_true, decide_eq_true_eq] at h
  exact h.1

theorem widthN_pos {ts : List TableD} {xs : List Int} (hc : catB ts = true) (ha : allB xs ts.length = true) (h1 : 1 ≤ xs.length) (h5 : xs.length ≤ 5) : 1 ≤ widthN ts xs ∧ widthN ts xs ≤ 20 := by
  have hcol : ∀ t ∈ xs, 1 ≤ (ts.getD t.toNat tz).cols ∧ (ts.getD t.toNat tz).cols ≤ 4 := fun t ht => by
    unfold allB at ha
    rw [List.all_eq_true] at ha
    have := ha t ht
    simp only [Bool.and_eq_true, decide_eq_true_eq] at this
    exact cols_of hc (i := t.toNat) (by omega)
  have hg : ∀ l : List Int, (∀ t ∈ l, 1 ≤ (ts.getD t.toNat tz).cols ∧ (ts.getD t.toNat tz).cols ≤ 4) → (l.length : Int) ≤ widthN ts l ∧ widthN ts l ≤ 4 * l.length := by
    intro l
    induction l with
    | nil => intro _; simp [widthN]
    | cons a l ih =>
      intro h
      have h1 := ih (fun t ht => h t (by simp [ht]))
      have h2 := h a (by simp)
      have h3 : widthN ts (a :: l) = (ts.getD a.toNat tz).cols + widthN ts l := by simp [widthN]
      rw [h3, List.length_cons]
      omega
  have := hg xs hcol
  omega

def vz : IntsV := ⟨none, 0, []⟩
def qz : QueryV := ⟨vz, none, 0, [], false, vz, vz, vz, vz⟩

/-- A list of numbers that grows in a field of a struct, while numbers are made. -/
structure Growing (mb qb : Nat) (lo : Option Addr) (lc : Nat) (l : List Int) (e tq : TypeId) (W0 : World) (c : Value → Array Value) (W : World) (v : Value) (xs : List Int) : Prop where
  gb : GB W qb tq (c v)
  own : W.ownsRow W0.heap.size e 1 v xs.length (xs.map (Value.int .i64))
  mkr : MakerAt mb lo lc l W
  kept : Kept (fun b => b ≠ mb ∧ b ≠ qb) W0 W

theorem Growing.keep {mb qb : Nat} {lo : Option Addr} {lc : Nat} {l : List Int} {e tq : TypeId} {W0 : World} {c : Value → Array Value} {A B : World} {v : Value} {xs : List Int} (h : Growing mb qb lo lc l e tq W0 c A v xs) (hk : Kept (fun b => b ≠ mb) A B) (hm : MakerAt mb lo lc l B)
    (hq : qb ≠ mb) (hmb : mb < W0.heap.size) : Growing mb qb lo lc l e tq W0 c B v xs :=
  ⟨h.gb.keep hk hq, ownsRow_keep h.own hk (fun g hg => by have := (ownsRow_lt h.own hg).1; omega), hm, h.kept.trans (hk.mono fun b _ h => h.1)⟩

theorem Growing.more {mb qb : Nat} {lo : Option Addr} {lc : Nat} {l : List Int} {e tq : TypeId} {W0 : World} {c : Value → Array Value} {A A1 B : World} {v v' : Value} {xs : List Int} (h : Growing mb qb lo lc l e tq W0 c A v xs) {f : Nat} {p : Int}
    (ha : Kept (fun _ => True) A A1) (hown : B.ownsRow W0.heap.size e 1 v' (xs.length + 1) (xs.map (Value.int .i64) ++ [.int .i64 p])) (hg : A1.grownBy B v.ownBlock) (hc : (c v).setIfInBounds f v' = c v')
    (hq : qb ≠ mb) (hmb : mb < W0.heap.size) (hqb : qb < W0.heap.size) (hlo : ∀ a, lo = some a → a.block < W0.heap.size ∧ a.block ≠ qb) :
    Growing mb qb lo lc l e tq W0 c (B.setCell ⟨qb, f, none⟩ v') v' (xs ++ [p]) := by
  have hvb : ∀ g, v.ownBlock = some g → W0.heap.size ≤ g := fun g hg => (ownsRow_lt h.own hg).1
  have hvb' : ∀ g, v'.ownBlock = some g → W0.heap.size ≤ g := fun g hg => (ownsRow_lt hown hg).1
  have hk1 : Kept (fun b => v.ownBlock ≠ some b) A B := (ha.mono fun _ _ _ => trivial).trans (Kept.grown hg (fun r e hr => hr e))
  have hk2 : Kept (fun b => v.ownBlock ≠ some b ∧ b ≠ qb) A (B.setCell ⟨qb, f, none⟩ v') := (hk1.mono fun _ _ h => h.1).trans (Kept.setCell _ _ _ (fun h => h.2 rfl))
  refine ⟨?_, ?_, ?_, ?_⟩
  · have hgB : GB B qb tq (c v) := h.gb.keep hk1 (fun e => by have := hvb _ e; omega)
    have := hgB.set f v'
    rwa [hc] at this
  · have := ownsRow_keep hown (s := fun b => b ≠ qb) (Kept.setCell B ⟨qb, f, none⟩ v' (fun h => h rfl)) (fun g hg => by have := hvb' g hg; omega)
    simpa using this
  · exact h.mkr.keepN hk2 ⟨fun e => by have := hvb _ e; omega, Ne.symm hq⟩ (fun a ha => ⟨fun e => by have := hvb _ e; have := (hlo a ha).1; omega, (hlo a ha).2⟩)
  · exact ((h.kept.mono (t := fun b => (b ≠ mb ∧ b ≠ qb) ∧ b < W0.heap.size) (fun b _ h => h.1)).trans (hk2.mono fun b _ h => ⟨fun e => by have := hvb _ e; have := h.2; omega, h.1.2⟩)).mono (fun b hb h => ⟨h, hb⟩)

theorem Growing.far {mb qb : Nat} {lo : Option Addr} {lc : Nat} {l : List Int} {e tq : TypeId} {W0 : World} {c : Value → Array Value} {A A1 B : World} {v : Value} {xs : List Int} (h : Growing mb qb lo lc l e tq W0 c A v xs)
    (ha : Kept (fun _ => True) A A1) (hg : A1.grownBy B v.ownBlock) : Kept (fun b => b < W0.heap.size) A B :=
  (ha.mono fun _ _ _ => trivial).trans (Kept.grown hg (fun r e hr => by have := (ownsRow_lt h.own e).1; omega))

theorem TablesAt.keep {A B : World} {ao : Option Addr} {ts : List TableD} (h : TablesAt A ao ts) (hb : ∀ a, ao = some a → a.block < A.heap.size → B.heap[a.block]? = A.heap[a.block]?) : TablesAt B ao ts := by
  refine ⟨h.1, fun i hi => ?_⟩
  obtain ⟨b, off, rfl, h0, h1, h2, h3, h4, h5⟩ := h.2 i hi
  have hl : b < A.heap.size := cell_lt (p := ⟨b, off + i * 6, none⟩) h0
  have hbk := hb ⟨b, off, none⟩ rfl hl
  exact ⟨b, off, rfl, (World.cell?_of_block (a := ⟨b, off + i * 6, none⟩) hbk).trans h0, (World.cell?_of_block (a := ⟨b, off + i * 6 + 1, none⟩) hbk).trans h1, (World.cell?_of_block (a := ⟨b, off + i * 6 + 2, none⟩) hbk).trans h2,
    (World.cell?_of_block (a := ⟨b, off + i * 6 + 3, none⟩) hbk).trans h3, (World.cell?_of_block (a := ⟨b, off + i * 6 + 4, none⟩) hbk).trans h4, (World.cell?_of_block (a := ⟨b, off + i * 6 + 5, none⟩) hbk).trans h5⟩
theorem CondsAt.keep {A B : World} {ao : Option Addr} {cs : List CondD} (h : CondsAt A ao cs) (hb : ∀ a, ao = some a → a.block < A.heap.size → B.heap[a.block]? = A.heap[a.block]?) : CondsAt B ao cs := by
  refine ⟨h.1, fun i hi => ?_⟩
  obtain ⟨b, off, rfl, h0, h1, h2, h3, h4⟩ := h.2 i hi
  have hl : b < A.heap.size := cell_lt (p := ⟨b, off + i * 5, none⟩) h0
  have hbk := hb ⟨b, off, none⟩ rfl hl
  exact ⟨b, off, rfl, (World.cell?_of_block (a := ⟨b, off + i * 5, none⟩) hbk).trans h0, (World.cell?_of_block (a := ⟨b, off + i * 5 + 1, none⟩) hbk).trans h1, (World.cell?_of_block (a := ⟨b, off + i * 5 + 2, none⟩) hbk).trans h2,
    (World.cell?_of_block (a := ⟨b, off + i * 5 + 3, none⟩) hbk).trans h3, (World.cell?_of_block (a := ⟨b, off + i * 5 + 4, none⟩) hbk).trans h4⟩

/-- A list of a query, in a block from n on. -/
def ListIn (n : Nat) (x : IntsV) (S : World) : Prop := rowEl.At x S ∧ (∀ b, rowEl.blk x = some b → n ≤ b) ∧ x.xs.length ≤ x.cap
theorem ListIn.keep {n : Nat} {x : IntsV} {A B : World} {s : Nat → Prop} (h : ListIn n x A) (hk : Kept s A B) (hs : ∀ b, n ≤ b → s b) : ListIn n x B :=
  ⟨rowEl.keep h.1 hk.size (fun b hb hx => hk.block b hb (hs b (h.2.1 b hx))), h.2.1, h.2.2⟩
theorem ListIn.nil (n : Nat) (S : World) : ListIn n vz S :=
  ⟨⟨⟨by simp [vz], fun i hi => absurd hi (by simp [vz])⟩, (fun a ha => by cases ha), fun _ => rfl⟩, (fun b hb => by cases hb), by simp [vz]⟩
theorem listIn_of_own {w : World} {base n : Nat} {e : TypeId} {v : Value} {k : Nat} {xs : List Int} (h : w.ownsRow base e 1 v k (xs.map (Value.int .i64))) (hl : xs.length ≤ 1000) (hb : n ≤ base) : ∃ iv : IntsV, v = iv.val ∧ iv.xs = xs ∧ ListIn n iv w := by
  obtain ⟨iv, hv, hx, hat, hbb⟩ := rowEl_of_own h (by omega)
  refine ⟨iv, hv, hx, hat, fun b hb' => Nat.le_trans hb (hbb b hb'), ?_⟩
  have hn : xs.length = k := by have := h.1; simpa using this
  rcases h.2 with ⟨hv', h0⟩ | ⟨g, cap, cur, hv', _, _, hc, _⟩
  · rw [hx]; omega
  · rw [hv] at hv'
    unfold IntsV.val at hv'
    injection hv' with h1 h2 h3
    omega

/-- The clauses of a query, in blocks from n on. -/
def WhereIn (n : Nat) (ad : Option Addr) (ls : List ClauseV) (S : World) : Prop :=
  ClausesAt S ad ls ∧ (∀ a, ad = some a → n ≤ a.block) ∧ ∀ i, i < ls.length → ∀ a, (ls.getD i lz).ad = some a → n ≤ a.block
theorem WhereIn.keep {n : Nat} {ad : Option Addr} {ls : List ClauseV} {A B : World} {s : Nat → Prop} (h : WhereIn n ad ls A) (hk : Kept s A B) (hs : ∀ b, n ≤ b → s b) : WhereIn n ad ls B :=
  ⟨⟨h.1.1, h.1.2.1.keep fun a ha hlt => hk.block _ hlt (hs _ (h.2.1 a ha)), fun i hi => (h.1.2.2 i hi).keep fun a ha hlt => hk.block _ hlt (hs _ (h.2.2 i hi a ha))⟩, h.2.1, h.2.2⟩

/-- All lists of a query. -/
structure ListsIn (n : Nat) (q : QueryV) (S : World) : Prop where
  src : ListIn n q.src S
  wh : WhereIn n q.wad q.wh S
  keys : ListIn n q.keys S
  sums : ListIn n q.sums S
  sel : ListIn n q.sel S
  ord : ListIn n q.ord S
  nil : q.wad = none → q.wcap = 0
theorem ListsIn.keep {n : Nat} {q : QueryV} {A B : World} {s : Nat → Prop} (h : ListsIn n q A) (hk : Kept s A B) (hs : ∀ b, n ≤ b → s b) : ListsIn n q B :=
  ⟨h.src.keep hk hs, h.wh.keep hk hs, h.keys.keep hk hs, h.sums.keep hk hs, h.sel.keep hk hs, h.ord.keep hk hs, h.nil⟩
theorem ListIn.lower {n m : Nat} {x : IntsV} {S : World} (h : ListIn n x S) (hm : m ≤ n) : ListIn m x S := ⟨h.1, fun b hb => Nat.le_trans hm (h.2.1 b hb), h.2.2⟩
theorem ListsIn.lower {n m : Nat} {q : QueryV} {S : World} (h : ListsIn n q S) (hm : m ≤ n) : ListsIn m q S :=
  ⟨h.src.lower hm, ⟨h.wh.1, fun a ha => Nat.le_trans hm (h.wh.2.1 a ha), fun i hi a ha => Nat.le_trans hm (h.wh.2.2 i hi a ha)⟩, h.keys.lower hm, h.sums.lower hm, h.sel.lower hm, h.ord.lower hm, h.nil⟩
theorem ListsIn.at' {n : Nat} {q : QueryV} {S : World} (h : ListsIn n q S) : q.At S := ⟨h.src.1.1, h.wh.1, h.keys.1.1, h.sums.1.1, h.sel.1.1, h.ord.1.1⟩

end Go.Scout

