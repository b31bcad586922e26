import Derived.Laws.CopyOwn
import Derived.Deep.OwnRows
import Derived.Shelf.RegionOpen
import Derived.Test.YtlpbelhfpoilpaaGreatCCatAItDItEBase4
set_option linter.all false
namespace Go.Scout
open Go.RowKit

theorem heap_alloc_new (w : World) (o : Obj) : (w.alloc o).heap[w.heap.size]? = some o := by
  show (w.heap.push o)[w.heap.size]? = _
  simp

theorem setRow_alloc (w : World) (c cs : Array Value) (t : TypeId) : (w.alloc (.cells c t)).setRow w.heap.size cs = w.alloc (.cells cs t) := by
  unfold World.setRow World.alloc
  simp only [World.mk.injEq, and_true]
  apply Array.ext_getElem?
  intro i
  rw [Array.getElem?_modify, Array.getElem?_push, Array.getElem?_push]
  by_cases h : i = w.heap.size
  · subst h
    simp
  · have : ¬ w.heap.size = i := fun e => h e.symm
    simp [h, this]

theorem setCell_alloc (w : World) (c : Array Value) (t : TypeId) (i : Nat) (v : Value) : (w.alloc (.cells c t)).setCell ⟨w.heap.size, i, none⟩ v = w.alloc (.cells (c.setIfInBounds i v) t) := by
  rw [setCell_eq_setRow (w.alloc (.cells c t)) w.heap.size i c t (0, 0) v (heap_alloc_new w _), setRow_alloc]

theorem addr_add (b off j : Nat) : (⟨b, off, none⟩ : Addr).add j = ⟨b, off + j, none⟩ := by unfold Addr.add; split <;> simp_all

/-- copy of elements of whatever size to the head of a row: all is read before anything is written. -/
theorem run_copy_wide {P : Program} (w : World) (dT sT ty elem : TypeId) (size g dLen dCap : Nat) (sp : Option Addr) (sLen sCap : Nat) (cur : Array Value) (t : TypeId) (cs : List Value)
    (hu : P.underlying dT = some (.slice elem)) (hs : (P.info? elem).map (·.size) = some size) (hg : w.heap[g]? = some (.cells cur t (0, 0))) (hle : sLen ≤ dLen) (hn : cs.length = sLen * size)
    (hsrc : 0 < cs.length → ∃ a, sp = some a ∧ ∀ j v, cs[j]? = some v → w.cell? (a.add j) = some v) (hfit : cs.length ≤ cur.size) (h1 : ∀ v ∈ cs, v.oneCell' = true) :
    (Builtin.copy_ #[dT, sT] ty #[.slice (some ⟨g, 0, none⟩) dLen dCap, .slice sp sLen sCap]).run P w = .ok (goInt sLen) (w.setRow g (cs ++ cur.toList.drop cs.length).toArray) := by
  have hst := run_storeCells_at P g 0 t cs 0 cur w hg (by simpa using hfit) h1
  have hmin : Nat.min sLen dLen = sLen := Nat.min_eq_left hle
  cases hq : P.info? elem with
  | none => simp [hq] at hs
  | some i =>
    have hi : i.size = size := by simpa [hq] using hs
    by_cases h0 : cs.length = 0
    · obtain rfl : cs = [] := List.eq_nil_of_length_eq_zero h0
      have hself : w.setRow g cur = w := setRow_self w g cur t (0, 0) hg
      have hl : ∀ (x : Addr), (loadCells x (sLen * size)).run P w = .ok #[] w := fun x => by
        rw [← hn]
        simpa using run_loadCells_list (P := P) w x [] (by simp)
      cases sp <;> simp [Builtin.copy_, run_underlying hu, Builtin.lenOf, Builtin.firstCells, sizeOf, typeInfo, hq, hi, hmin, storeCells, hl, hself]
    · obtain ⟨a, rfl, hc⟩ := hsrc (by omega)
      have hl := run_loadCells_list (P := P) w a cs hc
      rw [hn] at hl
      simp [Builtin.copy_, run_underlying hu, Builtin.lenOf, Builtin.firstCells, sizeOf, typeInfo, hq, hi, hmin, hl, hst]

theorem wpList_copy_wide {P : Program} {w : World} {ops : Array Oper} {rest : List Oper} {o : Oper} {a : Act} {Q : Exit → Act → World → Prop} (hgd : o.guard = none) (d s : Operand) (dT sT : TypeId)
    (ho : o.op = .call { callee := .builtin .copy, args := #[d, s], argTypes := #[dT, sT] }) (elem : TypeId) (size : Nat) (hu : P.underlying dT = some (.slice elem)) (hs : (P.info? elem).map (·.size) = some size)
    (g dLen dCap : Nat) (sp : Option Addr) (sLen sCap : Nat) (hd : a.eval d = .slice (some ⟨g, 0, none⟩) dLen dCap) (hsv : a.eval s = .slice sp sLen sCap)
    (cur : Array Value) (t : TypeId) (cs : List Value) (hg : w.heap[g]? = some (.cells cur t (0, 0))) (hle : sLen ≤ dLen) (hn : cs.length = sLen * size)
    (hsrc : 0 < cs.length → ∃ a, sp = some a ∧ ∀ j v, cs[j]? = some v → w.cell? (a.add j) = some v) (hfit : cs.length ≤ cur.size) (h1 : ∀ v ∈ cs, v.oneCell' = true)
    (h : wpList P ops Q rest (a.put o.dst (goInt sLen)) (w.setRow g (cs ++ cur.toList.drop cs.length).toArray)) : wpList P ops Q (o :: rest) a w := by
  refine wpList_plain hgd fun K hK => ?_
  have hrun := run_copy_wide (P := P) w dT sT o.type elem size g dLen dCap sp sLen sCap cur t cs hu hs hg hle hn hsrc hfit h1
  unfold Oper.wp
  simp [execOp, ho, resolve, invoke, builtin, hd, hsv, hrun, Result.andThen]
  exact hK _ _ h

/-- What lend makes: the numbers, and two marks behind them. -/
def lentCells (xs : List Int) : Array Value := (xs.map (Value.int .i64) ++ [Value.int .i64 77777, Value.int .i64 77777]).toArray

theorem madeCells_one (z : Value) (n : Nat) : madeCells #[z] n = (List.replicate n z).toArray := by
  apply Array.ext_getElem?
  intro i
  by_cases hi : i < n
  · simp [madeCells, hi]
    simp [Nat.mod_one]
  · simp [madeCells, hi]

/-- The rows that lend goes through: two zeros behind, then one mark, then two. -/
def lend1 (xs : List Int) : Array Value := (xs.map (Value.int .i64) ++ [Value.int .i64 0, Value.int .i64 0]).toArray
def lend2 (xs : List Int) : Array Value := (xs.map (Value.int .i64) ++ [Value.int .i64 77777, Value.int .i64 0]).toArray

theorem lend1_at (xs : List Int) : (lend1 xs)[xs.length]? = some (.int .i64 0) := by simp [lend1]
theorem lend2_at (xs : List Int) : (lend2 xs)[xs.length + 1]? = some (.int .i64 0) := by simp [lend2]
theorem lend1_set (xs : List Int) : (lend1 xs).setIfInBounds xs.length (.int .i64 77777) = lend2 xs := by
  simp only [lend1, lend2, List.setIfInBounds_toArray]
  rw [List.set_append_right _ _ (by simp)]
  simp
theorem lend2_set (xs : List Int) : (lend2 xs).setIfInBounds (xs.length + 1) (.int .i64 77777) = lentCells xs := by
  simp only [lend2, lentCells, List.setIfInBounds_toArray]
  rw [List.set_append_right _ _ (by simp)]
  simp

theorem setCell_alloc_lend1 (w : World) (xs : List Int) (t : TypeId) : (w.alloc (.cells (lend1 xs) t)).setCell ⟨w.heap.size, xs.length, none⟩ (.int .i64 77777) = w.alloc (.cells (lend2 xs) t) := by rw [setCell_alloc, lend1_set]
theorem setCell_alloc_lend2 (w : World) (xs : List Int) (t : TypeId) : (w.alloc (.cells (lend2 xs) t)).setCell ⟨w.heap.size, xs.length + 1, none⟩ (.int .i64 77777) = w.alloc (.cells (lentCells xs) t) := by rw [setCell_alloc, lend2_set]

theorem run_copy_lend {P : Program} (w : World) (dT elem : TypeId) (ao : Option Addr) (cap : Nat) (xs : List Int) (hx : IntsAt w ao xs) (hu : P.underlying dT = some (.slice elem)) (hs : (P.info? elem).map (·.size) = some 1) (ty : TypeId) :
    (Builtin.copy_ #[dT, dT] ty #[.slice (some ⟨w.heap.size, 0, none⟩) (xs.length + 2) (xs.length + 2), .slice ao xs.length cap]).run P (w.alloc (.cells (madeCells #[.int .i64 0] (xs.length + 2)) elem)) =
      .ok (goInt xs.length) (w.alloc (.cells (lend1 xs) elem)) := by
  rw [run_copy_wide (w.alloc (.cells (madeCells #[.int .i64 0] (xs.length + 2)) elem)) dT dT ty elem 1 w.heap.size (xs.length + 2) (xs.length + 2) ao xs.length cap (madeCells #[.int .i64 0] (xs.length + 2)) elem (xs.map (Value.int .i64)) hu hs
    (heap_alloc_new _ _) (by omega) (by simp) ?_ (by simp [size_madeCells]) ?_, setRow_alloc]
  · congr 3
    rw [madeCells_one]
    unfold lend1
    congr 2
    rw [List.length_map, List.drop_replicate, show xs.length + 2 - xs.length = 2 by omega]
    rfl
  · intro h0
    have h0' : 0 < xs.length := by simpa using h0
    obtain ⟨b, off, rfl, hc⟩ := hx.get h0'
    refine ⟨⟨b, off, none⟩, rfl, fun j v hj => ?_⟩
    have hjl : j < xs.length := by
      have := (List.getElem?_eq_some_iff.1 hj).1
      simpa using this
    have e := cell_alloc (hc j hjl) (.cells (madeCells #[.int .i64 0] (xs.length + 2)) elem)
    simp [hjl] at hj
    subst hj
    rw [addr_add]
    simpa [hjl] using e
  · intro v hv
    simp at hv
    obtain ⟨a, _, rfl⟩ := hv
    rfl

end Go.Scout

namespace Go.Scout
open Go.RowKit

/-- A row that is a block's alone, with what is behind it. -/
def ownEl (e : TypeId) : El IntsV (List Int) where
  enc := IntsV.val
  At x W := rowEl.At x W ∧ W.ownsRow 0 e 1 x.val x.xs.length (x.xs.map (Value.int .i64))
  blk := rowEl.blk
  key := IntsV.xs
  keep := by
    rintro x A B ⟨h, ho⟩ hs hb
    refine ⟨rowEl.keep h hs hb, ho.1, ?_⟩
    rcases ho.2 with h | ⟨g, cap, cur, hv, hb', hg, h1, h2, h3, h4⟩
    · exact .inl h
    · refine .inr ⟨g, cap, cur, hv, hb', (hb g (Array.getElem?_eq_some_iff.1 hg).1 ?_).trans hg, h1, h2, h3, h4⟩
      have : x.ad = some ⟨g, 0, none⟩ := by
        have h := hv
        unfold IntsV.val at h
        injection h
      show Option.map _ x.ad = _
      rw [this]
      rfl
  inn := fun h hb => rowEl.inn h.1 hb

def pickN (xs cols : List Int) : List Int := cols.map fun c => xs.getD c.toNat 0
def pickArr (vals : List Int) (k : Nat) : Array Value := ((vals.take k).map (Value.int .i64) ++ List.replicate (vals.length - k) (Value.int .i64 0)).toArray

theorem pickArr_set (vals : List Int) {k : Nat} (hk : k < vals.length) : (pickArr vals k).setIfInBounds k (.int .i64 (vals.getD k 0)) = pickArr vals (k + 1) := by
  unfold pickArr
  rw [List.setIfInBounds_toArray]
  congr 1
  have h1 : ((vals.take k).map (Value.int .i64)).length = k := by simp; omega
  have h2 : vals.length - k = (vals.length - (k + 1)) + 1 := by omega
  rw [List.set_append_right _ _ (by omega), h1, Nat.sub_self, h2, List.replicate_succ, List.set_cons_zero, ← take_snoc vals 0 hk]
  simp

theorem pickArr_all (vals : List Int) : pickArr vals vals.length = (vals.map (Value.int .i64)).toArray := by simp [pickArr]
theorem pickArr_none (vals : List Int) : madeCells #[.int .i64 0] vals.length = pickArr vals 0 := by
  rw [madeCells_one]
  simp [pickArr]

theorem own_of_alloc (w : World) (vals : List Int) (e : TypeId) (hl : vals.length ≤ 1000000) :
    (ownEl e).At ⟨some ⟨w.heap.size, 0, none⟩, vals.length, vals⟩ (w.alloc (.cells (vals.map (Value.int .i64)).toArray e)) := by
  have ho : (w.alloc (.cells (vals.map (Value.int .i64)).toArray e)).ownsRow 0 e 1 (.slice (some ⟨w.heap.size, 0, none⟩) vals.length vals.length) vals.length (vals.map (Value.int .i64)) := by
    refine ⟨by simp, .inr ⟨w.heap.size, _, _, rfl, Nat.zero_le _, heap_alloc_new w _, Nat.le_refl _, by unfold maxLen; omega, by simp, by rw [List.take_of_length_le (by simp)]⟩⟩
  refine ⟨⟨⟨by show vals.length ≤ _; omega, fun i hi => ⟨w.heap.size, 0, rfl, ?_⟩⟩, fun a ha => by cases ha; simp, fun e => by cases e⟩, ho⟩
  have hi' : i < vals.length := hi
  simp [hi', List.getD]

end Go.Scout
namespace Go.Proofs.YtlpbelhfpoilpaaGreat
open Go.RowKit Go.Scout

set_option maxRecDepth 20000 in
set_option maxHeartbeats 4000000 in
theorem pick_any (x c : IntsV) (w : World) (hx : x.At w) (hc : c.At w) (ha : allB c.xs x.xs.length = true) (hl : c.xs.length ≤ 1000) :
    Calls Tryz.prog 97 #[x.val, c.val] w fun e w' => e = .returned (.slice (some ⟨w.heap.size, 0, none⟩) c.xs.length c.xs.length) ∧ w' = w.alloc (.cells ((pickN x.xs c.xs).map (Value.int .i64)).toArray 3) := by
  obtain ⟨xad, xcap, xs⟩ := x
  obtain ⟨cad, ccap, cs⟩ := c
  unfold IntsV.val
  simp only at ha hl
  have hmk := run_make_row' (P := Tryz.prog) 23 3 (.int .i64 0) 8 Tryz.underlying23 Tryz.infoInt rfl .i64 .i64 cs.length (by omega) (by omega)
  have hvl : (pickN xs cs).length = cs.length := by simp [pickN]
  have hm0 := pickArr_none (pickN xs cs)
  rw [hvl] at hm0
  rw [hm0] at hmk
  have HX : Hid _ := hx
  have HC : Hid _ := hc
  have HA : Hid _ := ha
  have HV : Hid _ := hvl
  have hxl := hx.1
  simp only at hxl
  clear hx hc ha hm0
  generalize hvv : pickN xs cs = vals at *
  have HVV : Hid _ := hvv
  clear hvv
  have hvl' := HV.out
  clear hvl
  simp only
  go_enter Tryz.func97, Tryz.ntmps97
  go_wp2
  go_loopw [13] (fun i wr => ∃ k : Nat, k ≤ cs.length ∧ i = .int .i64 k ∧ w.alloc (.cells (pickArr vals k) 3) = wr) (fun i _ => cs.length - (intOf i).toNat)
  case atStart => exact ⟨0, Nat.zero_le _, rfl, rfl⟩
  case round =>
    obtain ⟨k, hk, rfl, rfl⟩ := hrel
    by_cases hlt : k < cs.length
    · obtain ⟨cb, coff, rfl, hcc⟩ := HC.out.get hlt
      have hck := cell_below (below_alloc w (.cells (pickArr vals k) 3)) (hcc k hlt)
      have hbd := allB_at HA.out hlt
      have hcv : cs.getD k 0 = cs[k] := by simp [List.getD, hlt]
      rw [hcv] at hck
      have hvk : vals.getD k 0 = xs.getD cs[k].toNat 0 := by
        rw [← HVV.out]
        simp [pickN, List.getD, hlt]
      have hkn : cs[k].toNat < xs.length := by omega
      obtain ⟨xb, xoff, rfl, hxc⟩ := HX.out.get hkn
      have hxk := cell_below (below_alloc w (.cells (pickArr vals k) 3)) (hxc _ hkn)
      rw [← hvk] at hxk
      have hst := setCell_alloc w (pickArr vals k) 3 k (.int .i64 (vals.getD k 0))
      rw [pickArr_set vals (by omega)] at hst
      have hcn : ((cs[k].toNat : Nat) : Int) = cs[k] := by omega
      have hcell : (w.alloc (.cells (pickArr vals k) 3)).cell? ⟨w.heap.size, k, none⟩ = some (.int .i64 0) := by
        have : (pickArr vals k)[k]? = some (.int .i64 0) := by
          have h1 : ((vals.take k).map (Value.int .i64)).length = k := by simp; omega
          unfold pickArr
          rw [List.getElem?_toArray, List.getElem?_append_right (by omega), h1, Nat.sub_self, List.getElem?_replicate, if_pos (by omega)]
        simp [this]
      generalize vals.getD k 0 = vk at *
      generalize hck0 : cs[k] = ck at *
      clear hcv hvk hxc hcc hck0
      obtain ⟨cn, rfl⟩ : ∃ cn : Nat, ck = (cn : Int) := ⟨ck.toNat, by omega⟩
      simp only [Int.toNat_natCast] at hkn hxk
      clear hcn
      go_wp2
      go_roundw
      case rel => exact ⟨k + 1, by omega, by go_num, by first | rfl | trivial | assumption⟩
      case measure => simp [intOf]; omega
    · have hkk : k = cs.length := by omega
      subst hkk
      have hpa : pickArr vals cs.length = (vals.map (Value.int .i64)).toArray := by rw [← hvl']; exact pickArr_all vals
      rw [hpa]
      go_wp2
      go_ret
      exact ⟨rfl, rfl⟩

end Go.Proofs.YtlpbelhfpoilpaaGreat

namespace Go.Scout
open Go.RowKit

theorem pre_pick {pre : List IntsV} {x : IntsV} {rows : List (List Int)} (c : List Int) (h : (pre ++ [x]).map rowEl.key <+: rows) : (pre ++ [x]).map (fun r => pickN r.xs c) <+: rows.map (fun r => pickN r c) := by
  have h1 := List.IsPrefix.map (fun r => pickN r c) h
  rw [List.map_map] at h1
  exact h1

end Go.Scout
namespace Go.Proofs.YtlpbelhfpoilpaaGreat
open Go.RowKit Go.Scout Go.Shelf

attribute [local go_sem] Oper.semAt_some

set_option maxRecDepth 100000 in
set_option maxHeartbeats 8000000 in
theorem project_seq (bi bc gi : Nat) (lbi : Array Value) (c : IntsV) (rows : List (List Int)) (w0 : World) (hbi : bi < w0.heap.size) (hbc : bc < w0.heap.size)
    (hci : w0.cell? ⟨bi, 0, none⟩ = some (.func (.func gi) #[] lbi)) (hcc : w0.cell? ⟨bc, 0, none⟩ = some c.val) (hc : c.At w0) (hcl : c.xs.length ≤ 1000)
    (hseq : Seq rowEl Tryz.prog gi lbi rows w0) (egi : ∀ args w, (callFunc gi args).run Tryz.prog w = .ok (.enter gi args) w)
    (hin : ∀ r ∈ rows, allB c.xs r.length = true) :
    Seq (ownEl 3) Tryz.prog 96 #[.pointer (some ⟨bi, 0, none⟩), .pointer (some ⟨bc, 0, none⟩)] (rows.map fun r => pickN r c.xs) w0 := by
  intro l J W o hW ho hJ hY h0
  have hciW := (hW.cell (p := ⟨bi, 0, none⟩) hbi).trans hci
  have HY : Hid _ := hY
  have HO : Hid _ := ho
  have HW : Hid _ := hW
  have HJ : Hid _ := hJ
  have HIN : Hid _ := hin
  have HCC : Hid _ := hcc
  have HC : Hid _ := hc
  have HCL : Hid _ := hcl
  have HBC : Hid _ := hbc
  clear hY ho hW hJ hin hci hcc hc hcl hbc
  have hb1 : Below W.heap.size W (W.alloc (.cells #[.func (.yield l) #[] #[]] 87)) := below_alloc _ _
  have hci1 : (W.alloc (.cells #[.func (.yield l) #[] #[]] 87)).cell? ⟨bi, 0, none⟩ = some (.func (.func gi) #[] lbi) := (hb1.cell (p := ⟨bi, 0, none⟩) (Nat.lt_of_lt_of_le hbi HW.out.size)).trans hciW
  have hcy1 : (W.alloc (.cells #[.func (.yield l) #[] #[]] 87)).cell? ⟨W.heap.size, 0, none⟩ = some (.func (.yield l) #[] #[]) := by simp
  have hs1 : (W.alloc (.cells #[.func (.yield l) #[] #[]] 87)).heap.size = W.heap.size + 1 := by simp
  refine (callsIn_wide (n := 0)).1 (callsIn_of_wp_marks Tryz.func96 rfl trivial ?_ rfl)
  simp only [Tryz.ntmps96, List.size_toArray, List.length_cons, List.length_nil, Nat.reduceAdd, Nat.reduceSub, Array.replicate_succ, Array.replicate_zero, List.push_toArray, List.append_toArray, List.nil_append, List.cons_append]
  gi_wp2
  obtain ⟨w1, hw1⟩ : ∃ w1, W.alloc (.cells #[.func (.yield l) #[] #[]] 87) = w1 := ⟨_, rfl⟩
  rw [hw1] at hb1 hci1 hcy1 hs1
  rw [hw1]
  clear hw1
  have H1 : Hid (w1.heap.size = W.heap.size + 1) := hs1
  have H2 : Hid (Below W.heap.size W w1) := hb1
  clear hs1 hb1 hci1
  refine wp_range rowEl (gf := gi) (lb := lbi) rfl egi hseq (HW.out.trans (H2.out.mono HW.out.size)) rfl
    (fun pre o1 W' => ∃ zs, zs.map IntsV.xs = pre.map (fun r => pickN r.xs c.xs) ∧ J zs o1 W' ∧ Kept (fun b => ¬ o b) w1 W' ∧ ∀ b, o1 b → o b ∨ (w1.heap.size ≤ b ∧ b < W'.heap.size))
    o ?_ ?_ ?_ (fun x => { tmps := #[.func (.yield l) #[] #[], .pointer (some ⟨bi, 0, none⟩), .pointer (some ⟨bc, 0, none⟩), .pointer (some ⟨W.heap.size, 0, none⟩), x.val, .func (.func gi) #[] lbi, x.val, undef, undef, undef, undef, undef, undef], defers := [] }) ?assign ?body ?done
  · intro b hb
    exact ⟨(HO.out b hb).1, by have := (HO.out b hb).2; have := H1.out; omega⟩
  · rintro pre o1 A B ⟨zs, hz, hj, hk, hg⟩ hkk
    have h1 := H1.out
    exact ⟨zs, hz, HJ.out _ _ _ _ hj (hkk.mono fun b _ h => h.imp id (by omega)), hk.trans' hkk (fun b hb _ => .inr hb), fun b h => (hg b h).imp id (fun h => ⟨h.1, by have := hkk.size; omega⟩)⟩
  · exact ⟨[], rfl, HJ.out _ _ _ _ h0 (Kept.of_below H2.out fun b hb _ => hb), Kept.refl _ _, fun b h => .inl h⟩
  case assign =>
    intro l x W K hK
    gi_wp2
    exact hK
  case body =>
    rintro l2 pre x o1 Wr ⟨zs, hz, hj, hk, hg⟩ hpre hx hoff hsz
    have hkr : ∀ s, Kept s Wr Wr.drew := fun s => ⟨rfl, rfl, rfl, Nat.le_refl _, fun _ _ _ => rfl⟩
    obtain ⟨W2, hW2⟩ : ∃ W2, Wr.drew = W2 := ⟨_, rfl⟩
    rw [hW2] at hkr
    have HKR : Hid _ := hkr
    have hsr : W2.heap.size = Wr.heap.size := by rw [← hW2]; rfl
    have HSR : Hid _ := hsr
    replace hj := HJ.out _ _ _ _ hj (hkr _)
    replace hk := hk.trans (hkr _)
    replace hx := rowEl.keep hx (hkr (fun _ => True)).size (fun b hb _ => (hkr (fun _ => True)).block b hb trivial)
    rw [← hsr] at hg hsz
    clear hkr hsr
    have h1 := H1.out
    have hkz := hk.size
    have hbw : Below w0.heap.size w0 W2 := (HW.out.trans (H2.out.mono HW.out.size)).trans (hk.below (by have := HW.out.size; omega) (fun i hi h => by have := (HO.out i h).1; omega))
    have hcc2 : W2.cell? ⟨bc, 0, none⟩ = some c.val := (hbw.cell (p := ⟨bc, 0, none⟩) HBC.out).trans HCC.out
    have hc2 : c.At W2 := IntsAt.below hbw HC.out
    have hnW : ∀ b, W.heap.size ≤ b → ¬ o b := fun b hb h => by have := (HO.out b h).2; omega
    have hcy : W2.cell? ⟨W.heap.size, 0, none⟩ = some (.func (.yield l) #[] #[]) := cell_keep hcy1 hk (hnW _ (Nat.le_refl _))
    have hpk := pick_any x c W2 hx.1 hc2 (HIN.out _ (mem_of_pre hpre)) HCL.out
    obtain ⟨w3, hw3⟩ : ∃ w3, W2.alloc (.cells ((pickN x.xs c.xs).map (Value.int .i64)).toArray 3) = w3 := ⟨_, rfl⟩
    have hb3 : Below W2.heap.size W2 w3 := by rw [← hw3]; exact below_alloc _ _
    have hvl : (pickN x.xs c.xs).length = c.xs.length := by simp [pickN]
    have hat3 : (ownEl 3).At ⟨some ⟨W2.heap.size, 0, none⟩, (pickN x.xs c.xs).length, pickN x.xs c.xs⟩ w3 := by rw [← hw3]; exact own_of_alloc W2 _ _ (by rw [hvl]; have := HCL.out; omega)
    have hs3 : w3.heap.size = W2.heap.size + 1 := by rw [← hw3]; simp
    rw [hw3] at hpk
    have hcc3 := cell_below hb3 hcc2
    have hcy3 := cell_below hb3 hcy
    have hj3 := HJ.out _ _ _ _ hj (Kept.of_below hb3 (fun b hb _ => hb))
    have hp3 : (zs ++ [(⟨some ⟨W2.heap.size, 0, none⟩, (pickN x.xs c.xs).length, pickN x.xs c.xs⟩ : IntsV)]).map (ownEl 3).key <+: rows.map fun r => pickN r c.xs := by
      have e1 : (zs ++ [(⟨some ⟨W2.heap.size, 0, none⟩, (pickN x.xs c.xs).length, pickN x.xs c.xs⟩ : IntsV)]).map (ownEl 3).key = (pre ++ [x]).map (fun r => pickN r.xs c.xs) := by
        rw [List.map_append, List.map_append]
        show zs.map IntsV.xs ++ _ = _
        rw [hz]
        rfl
      rw [e1]
      exact pre_pick c.xs hpre
    have hno : ∀ b, o1 b → b < W2.heap.size := fun b h => by
      rcases hg b h with h | h
      · have := (HO.out b h).2; omega
      · exact h.2
    obtain ⟨fn, tmps, assign, body, hy, hRR⟩ := HY.out zs _ o1 w3 hj3 hp3 hat3 (fun b hb => by
      have hb' : some W2.heap.size = some b := hb
      cases hb'
      exact ⟨fun h => by have := hno _ h; omega, .inr (by omega)⟩) (by omega)
    have hy' : (Instr.yield l #[.slice (some ⟨W2.heap.size, 0, none⟩) c.xs.length c.xs.length]).run Tryz.prog w3 = .ok (.round l fn tmps assign body) w3 := by
      have := hy
      unfold ownEl IntsV.val at this
      simp only [hvl] at this
      exact this
    have HZ : Hid _ := hz
    have HK : Hid _ := hk
    have HG : Hid _ := hg
    have HN : Hid _ := hno
    have HB3 : Hid _ := hb3
    have HS3 : Hid _ := hs3
    have FIN : Hid (∀ (o2 : Nat → Prop) (W4 : World), J (zs ++ [⟨some ⟨W2.heap.size, 0, none⟩, (pickN x.xs c.xs).length, pickN x.xs c.xs⟩]) o2 W4 → Kept (fun b => ¬ o1 b) w3 W4 →
        (∀ b, o2 b → o1 b ∨ (w3.heap.size ≤ b ∧ b < W4.heap.size) ∨ ((ownEl 3).blk ⟨some ⟨W2.heap.size, 0, none⟩, (pickN x.xs c.xs).length, pickN x.xs c.xs⟩ = some b ∧ W.heap.size ≤ b)) →
        ∃ o2', (∃ zs, zs.map IntsV.xs = (pre ++ [x]).map (fun r => pickN r.xs c.xs) ∧ J zs o2' W4 ∧ Kept (fun b => ¬ o b) w1 W4 ∧ ∀ b, o2' b → o b ∨ (w1.heap.size ≤ b ∧ b < W4.heap.size)) ∧ Kept (fun b => ¬ o1 b) Wr W4 ∧
          ∀ b, o2' b → o1 b ∨ (Wr.heap.size ≤ b ∧ b < W4.heap.size) ∨ (rowEl.blk x = some b ∧ w1.heap.size ≤ b)) := by
      intro o2 W4 hj4 hk4 hg4
      have hs4 := hk4.size
      have hsr := HSR.out
      have hnew : ∀ b, o2 b → o1 b ∨ (W2.heap.size ≤ b ∧ b < W4.heap.size) := fun b hb => by
        rcases hg4 b hb with h | h | ⟨h, _⟩
        · exact .inl h
        · exact .inr ⟨by omega, h.2⟩
        · have hb' : some W2.heap.size = some b := h
          cases hb'
          exact .inr ⟨Nat.le_refl _, by omega⟩
      have hk24 : Kept (fun b => ¬ o1 b) W2 W4 := (Kept.of_below hb3 (fun b hb _ => hb)).trans hk4
      refine ⟨o2, ⟨_, ?_, hj4, hk.trans' hk24 ?_, ?_⟩, (HKR.out _).trans hk24, ?_⟩
      · rw [List.map_append, List.map_append, hz]
        rfl
      · intro b hb h h'
        rcases hg b h' with h' | h'
        · exact h h'
        · omega
      · intro b hb
        rcases hnew b hb with h | h
        · exact (hg b h).imp id (fun h => ⟨h.1, by omega⟩)
        · exact .inr ⟨by omega, h.2⟩
      · intro b hb
        rcases hnew b hb with h | h
        · exact .inl h
        · exact .inr (.inl ⟨by omega, h.2⟩)
    have hfol : Tryz.prog.follows .mixedOrders = true := by kernel_rfl
    clear hz hk hg hno hj hj3 hp3 hat3 hx hoff hpre hy hbw hc2 hnW hb3 hw3 hvl hs3
    obtain ⟨xad, xcap, xxs⟩ := x
    obtain ⟨cad, ccap, cxs⟩ := c
    unfold IntsV.val at *
    simp only at *
    gi_wp2
    gi_region_with_o (first | (refine ⟨trivial, rfl, CallsIn.inRound l2 (callsIn_wide.2 (hpk.mono ?_))⟩; rintro e w4 ⟨rfl, rfl⟩) | (refine ⟨rfl, hRR.mono ?_⟩; rintro e W4 ⟨rfl, o2, hj4, hk4, hg4⟩))
    all_goals gi_wp2
    all_goals exact FIN.out _ _ hj4 hk4 hg4
  case done =>
    rintro us o' W2 hus ⟨zs, hz, hj, hk, hg⟩ hk2 hg2 hD
    have h1 := H1.out
    gi_wp2
    have hnD : ¬ o' w1.heap.size := fun h => by
      rcases hg2 _ h with h | h
      · have := (HO.out _ h).2; omega
      · omega
    have hkD : Kept (fun b => b ≠ w1.heap.size) W2 (W2.putObj w1.heap.size (.deferred none)) := Kept.putObj _ _ (fun h => h rfl)
    refine ⟨by simp, .inl ⟨_, _, rfl, run_takeDeferred hD, ?_⟩⟩
    refine ⟨_, results_none rfl _ _ _, ⟨_, rfl⟩, zs, o', ?_, HJ.out _ _ _ _ hj (hkD.mono fun b _ h => ?_), ((Kept.of_below H2.out (fun b hb _ => hb)).trans' hk (fun b _ h => h)).trans' hkD (fun b hb _ => by omega), fun b h => (hg b h).imp id (fun h => ⟨by omega, by rw [World.putObj_size]; omega⟩)⟩
    · show zs.map IntsV.xs = _
      rw [hz, ← hus, List.map_map]
      rfl
    · rcases h with h | h
      · intro e; exact hnD (e ▸ h)
      · omega

end Go.Proofs.YtlpbelhfpoilpaaGreat

namespace Go.Scout
open Go.RowKit

/-- What a condition is, leaving Not aside: 1 true, -1 false, 0 unknown. -/
def truthV (op l r : Int) : Int :=
  if op = 2 then (if l = 1073741824 then 1 else -1) else if l = 1073741824 ∨ r = 1073741824 then 0 else if (op = 0 ∧ l = r) ∨ (op = 1 ∧ l < r) then 1 else -1
def truthN (c : CondD) (xs : List Int) : Int :=
  let t := truthV c.op (xs.getD c.left.toNat 0) (if c.op = 2 ∨ c.const = true then c.right else xs.getD c.right.toNat 0)
  if c.not then -t else t

def someB (cs : List CondD) (xs : List Int) : Bool := cs.any fun c => decide (truthN c xs = 1)
def keptB (ls : List ClauseV) (is : List Int) (xs : List Int) : Bool := is.all fun i => someB (ls.getD i.toNat lz).cs xs

theorem someB_succ {cs : List CondD} {xs : List Int} {k : Nat} (hk : k < cs.length) : someB (cs.take (k + 1)) xs = (someB (cs.take k) xs || decide (truthN (cs.getD k cz) xs = 1)) := by
  unfold someB
  rw [List.take_succ_eq_append_getElem hk, List.any_append]
  simp [List.getD, hk]
theorem keptB_bad {ls : List ClauseV} {is xs : List Int} {k : Nat} (hk : k < is.length) (h : someB (ls.getD is[k].toNat lz).cs xs = false) : false = keptB ls is xs := by
  symm
  unfold keptB
  rw [List.all_eq_false]
  exact ⟨is[k], List.getElem_mem hk, by rw [h]; simp⟩
theorem keptB_step {ls : List ClauseV} {is xs : List Int} {k : Nat} (hk : k < is.length) (hp : keptB ls (is.take k) xs = true) (h : someB (ls.getD is[k].toNat lz).cs xs = true) : keptB ls (is.take (k + 1)) xs = true := by
  unfold keptB at *
  rw [List.take_succ_eq_append_getElem hk, List.all_append, hp, List.all_cons, List.all_nil, h]
  rfl

theorem condB_parts {c : CondD} {n : Nat} (h : condB c n = true) : (c.op = 0 ∨ c.op = 1 ∨ c.op = 2) ∧ (0 ≤ c.left ∧ c.left < n) ∧ (c.op = 2 ∨ c.const = true ∨ (0 ≤ c.right ∧ c.right < n)) := by
  unfold condB at h
  simp only [Bool.and_eq_true, decide_eq_true_eq] at h
  obtain ⟨⟨⟨⟨h1, h2⟩, h3⟩, h4⟩, h5⟩ := h
  refine ⟨by omega, ⟨h1, h2⟩, ?_⟩
  by_cases ho : c.op = 2
  · exact .inl ho
  · rw [if_neg ho] at h5
    cases hc : c.const
    · rw [if_neg (by simp [hc])] at h5
      simp only [Bool.and_eq_true, decide_eq_true_eq] at h5
      exact .inr (.inr ⟨h5.1, by omega⟩)
    · exact .inr (.inl rfl)


/-- What the program's clauses come to: the greatest of their conditions' truths, one more than ours. -/
def clauseN (cs : List CondD) (xs : List Int) : Int := cs.foldl (fun m c => max m (truthN c xs + 1)) 0
theorem clauseN_succ {cs : List CondD} {xs : List Int} {k : Nat} (hk : k < cs.length) : clauseN (cs.take (k + 1)) xs = max (clauseN (cs.take k) xs) (truthN (cs.getD k cz) xs + 1) := by
  unfold clauseN
  rw [List.take_succ_eq_append_getElem hk, List.foldl_append]
  simp [List.getD, hk]
theorem truthV_range (op l r : Int) : truthV op l r = 1 ∨ truthV op l r = 0 ∨ truthV op l r = -1 := by
  unfold truthV
  split
  · split <;> simp
  · split
    · simp
    · split <;> simp
theorem truthN_range (c : CondD) (xs : List Int) : truthN c xs = 1 ∨ truthN c xs = 0 ∨ truthN c xs = -1 := by
  unfold truthN
  simp only
  have := truthV_range c.op (xs.getD c.left.toNat 0) (if c.op = 2 ∨ c.const = true then c.right else xs.getD c.right.toNat 0)
  split <;> omega
theorem clauseN_range (cs : List CondD) (xs : List Int) : 0 ≤ clauseN cs xs ∧ clauseN cs xs ≤ 2 := by
  unfold clauseN
  have h : ∀ (l : List CondD) (m : Int), 0 ≤ m ∧ m ≤ 2 → 0 ≤ l.foldl (fun m c => max m (truthN c xs + 1)) m ∧ l.foldl (fun m c => max m (truthN c xs + 1)) m ≤ 2 := by
    intro l
    induction l with
    | nil => intro m hm; exact hm
    | cons c l ih =>
      intro m hm
      refine ih _ ?_
      have := truthN_range c xs
      show 0 ≤ max m (truthN c xs + 1) ∧ max m (truthN c xs + 1) ≤ 2
      omega
  exact h cs 0 (by omega)
theorem clauseN_true (cs : List CondD) (xs : List Int) : decide (clauseN cs xs = 2) = someB cs xs := by
  unfold clauseN someB
  have h : ∀ (l : List CondD) (m : Int), 0 ≤ m ∧ m ≤ 2 → decide (l.foldl (fun m c => max m (truthN c xs + 1)) m = 2) = (decide (m = 2) || l.any fun c => decide (truthN c xs = 1)) := by
    intro l
    induction l with
    | nil => intro m _; rw [List.foldl_nil, List.any_nil, Bool.or_false]
    | cons c l ih =>
      intro m hm
      have hr := truthN_range c xs
      rw [List.foldl_cons, ih _ (by omega), List.any_cons, ← Bool.or_assoc]
      congr 1
      rcases hr with h | h | h <;> rw [h]
      · have : max m (1 + 1) = 2 := by omega
        rw [this]; simp
      · by_cases h2 : m = 2
        · subst h2; rfl
        · have : max m (0 + 1) ≠ 2 := by omega
          rw [decide_eq_false this, decide_eq_false h2]; simp
      · by_cases h2 : m = 2
        · subst h2; rfl
        · have : max m (-1 + 1) ≠ 2 := by omega
          rw [decide_eq_false this, decide_eq_false h2]; simp
  rw [h cs 0 (by omega)]
  simp
/-- All the clauses are true of a row. -/
def holdsB (ls : List ClauseV) (xs : List Int) : Bool := ls.all fun c => someB c.cs xs

end Go.Scout

