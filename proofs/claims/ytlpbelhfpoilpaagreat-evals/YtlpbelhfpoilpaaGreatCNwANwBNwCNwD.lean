import Derived.Test.YtlpbelhfpoilpaaGreatCBase5PickAItFPure0
import Derived.Test.YtlpbelhfpoilpaaGreatCMkCMkDGrNSoO
set_option linter.all false
namespace Go.Scout
open Go.RowKit

/-- A row that is a block's alone, and new: its block lies from lo on. -/
def newEl (e : TypeId) (lo : Nat) : El IntsV (List Int) where
  enc := IntsV.val
  At x W := (ownEl e).At x W ∧ ∀ b, rowEl.blk x = some b → lo ≤ b
  blk := rowEl.blk
  key := IntsV.xs
  keep := fun h hs hb => ⟨(ownEl e).keep h.1 hs hb, h.2⟩
  inn := fun h hb => rowEl.inn h.1.1 hb

/-- A function over which one can range, which hands out new rows alone. -/
def SeqF (P : Program) (e : TypeId) (v : Value) (rows : List (List Int)) (w : World) : Prop :=
  ∃ g lb, v = .func (.func g) #[] lb ∧ (∀ args w, (callFunc g args).run P w = .ok (.enter g args) w) ∧ Seq (newEl e w.heap.size) P g lb rows w

theorem Seq.renew {P : Program} {e : TypeId} {g : Nat} {lb : Array Value} {rows : List (List Int)} {w0 w1 : World} (h : Seq (newEl e w0.heap.size) P g lb rows w0) (hb : Below w0.heap.size w0 w1) : Seq (newEl e w1.heap.size) P g lb rows w1 := by
  intro l J W o hW ho hJ hY h0
  refine h l J W o (hb.trans (hW.mono hb.size)) (fun b hb' => ⟨Nat.le_trans hb.size (ho b hb').1, (ho b hb').2⟩) hJ (fun pre x o1 W1 hj hp hx hoff hs => ?_) h0
  have hge : ∀ b, rowEl.blk x = some b → W.heap.size ≤ b := fun b hb' => by
    rcases (hoff b hb').2 with h' | h'
    · have := hx.2 b hb'; omega
    · exact h'
  exact hY pre x o1 W1 hj hp ⟨hx.1, fun b hb' => Nat.le_trans hW.size (hge b hb')⟩ (fun b hb' => ⟨(hoff b hb').1, .inr (hge b hb')⟩) hs

theorem SeqF.later {P : Program} {e : TypeId} {v : Value} {rows : List (List Int)} {w w' : World} (h : SeqF P e v rows w) (hb : Below w.heap.size w w') : SeqF P e v rows w' := by
  obtain ⟨g, lb, hv, eg, hs⟩ := h
  exact ⟨g, lb, hv, eg, hs.renew hb⟩

end Go.Scout

namespace Go.Proofs.YtlpbelhfpoilpaaGreat
open Go.RowKit Go.Scout Go.Shelf

attribute [local go_sem] Oper.semAt_some

set_option maxRecDepth 100000 in
set_option maxHeartbeats 8000000 in
theorem projectN_seq (lo : Nat) (bi bc gi : Nat) (lbi : Array Value) (c : IntsV) (rows : List (List Int)) (w0 : World) (hbi : bi < w0.heap.size) (hbc : bc < w0.heap.size)
    (hci : w0.cell? ⟨bi, 0, none⟩ = some (.func (.func gi) #[] lbi)) (hcc : w0.cell? ⟨bc, 0, none⟩ = some c.val) (hc : c.At w0) (hcl : c.xs.length ≤ 1000)
    (hseq : Seq rowEl Tryz.prog gi lbi rows w0) (egi : ∀ args w, (callFunc gi args).run Tryz.prog w = .ok (.enter gi args) w)
    (hin : ∀ r ∈ rows, allB c.xs r.length = true) (hlo : lo ≤ w0.heap.size) :
    Seq (newEl 3 lo) Tryz.prog 96 #[.pointer (some ⟨bi, 0, none⟩), .pointer (some ⟨bc, 0, none⟩)] (rows.map fun r => pickN r c.xs) w0 := by
  intro l J W o hW ho hJ hY h0
  have hciW := (hW.cell (p := ⟨bi, 0, none⟩) hbi).trans hci
  have HY : Hid _ := hY
  have HO : Hid _ := ho
  have HW : Hid _ := hW
  have HJ : Hid _ := hJ
  have HIN : Hid _ := hin
  have HCC : Hid _ := hcc
  have HC : Hid _ := hc
  have HCL : Hid _ := hcl
  have HBC : Hid _ := hbc
  clear hY ho hW hJ hin hci hcc hc hcl hbc
  have hb1 : Below W.heap.size W (W.alloc (.cells #[.func (.yield l) #[] #[]] 87)) := below_alloc _ _
  have hci1 : (W.alloc (.cells #[.func (.yield l) #[] #[]] 87)).cell? ⟨bi, 0, none⟩ = some (.func (.func gi) #[] lbi) := (hb1.cell (p := ⟨bi, 0, none⟩) (Nat.lt_of_lt_of_le hbi HW.out.size)).trans hciW
  have hcy1 : (W.alloc (.cells #[.func (.yield l) #[] #[]] 87)).cell? ⟨W.heap.size, 0, none⟩ = some (.func (.yield l) #[] #[]) := by simp
  have hs1 : (W.alloc (.cells #[.func (.yield l) #[] #[]] 87)).heap.size = W.heap.size + 1 := by simp
  refine (callsIn_wide (n := 0)).1 (callsIn_of_wp_marks Tryz.func96 rfl trivial ?_ rfl)
  simp only [Tryz.ntmps96, List.size_toArray, List.length_cons, List.length_nil, Nat.reduceAdd, Nat.reduceSub, Array.replicate_succ, Array.replicate_zero, List.push_toArray, List.append_toArray, List.nil_append, List.cons_append]
  gi_wp2
  obtain ⟨w1, hw1⟩ : ∃ w1, W.alloc (.cells #[.func (.yield l) #[] #[]] 87) = w1 := ⟨_, rfl⟩
  rw [hw1] at hb1 hci1 hcy1 hs1
  rw [hw1]
  clear hw1
  have H1 : Hid (w1.heap.size = W.heap.size + 1) := hs1
  have H2 : Hid (Below W.heap.size W w1) := hb1
  clear hs1 hb1 hci1
  refine wp_range rowEl (gf := gi) (lb := lbi) rfl egi hseq (HW.out.trans (H2.out.mono HW.out.size)) rfl
    (fun pre o1 W' => ∃ zs, zs.map IntsV.xs = pre.map (fun r => pickN r.xs c.xs) ∧ J zs o1 W' ∧ Kept (fun b => ¬ o b) w1 W' ∧ ∀ b, o1 b → o b ∨ (w1.heap.size ≤ b ∧ b < W'.heap.size))
    o ?_ ?_ ?_ (fun x => { tmps := #[.func (.yield l) #[] #[], .pointer (some ⟨bi, 0, none⟩), .pointer (some ⟨bc, 0, none⟩), .pointer (some ⟨W.heap.size, 0, none⟩), x.val, .func (.func gi) #[] lbi, x.val, undef, undef, undef, undef, undef, undef], defers := [] }) ?assign ?body ?done
  · intro b hb
    exact ⟨(HO.out b hb).1, by have := (HO.out b hb).2; have := H1.out; omega⟩
  · rintro pre o1 A B ⟨zs, hz, hj, hk, hg⟩ hkk
    have h1 := H1.out
    exact ⟨zs, hz, HJ.out _ _ _ _ hj (hkk.mono fun b _ h => h.imp id (by omega)), hk.trans' hkk (fun b hb _ => .inr hb), fun b h => (hg b h).imp id (fun h => ⟨h.1, by have := hkk.size; omega⟩)⟩
  · exact ⟨[], rfl, HJ.out _ _ _ _ h0 (Kept.of_below H2.out fun b hb _ => hb), Kept.refl _ _, fun b h => .inl h⟩
  case assign =>
    intro l x W K hK
    gi_wp2
    exact hK
  case body =>
    rintro l2 pre x o1 Wr ⟨zs, hz, hj, hk, hg⟩ hpre hx hoff hsz
    have hkr : ∀ s, Kept s Wr Wr.drew := fun s => ⟨rfl, rfl, rfl, Nat.le_refl _, fun _ _ _ => rfl⟩
    obtain ⟨W2, hW2⟩ : ∃ W2, Wr.drew = W2 := ⟨_, rfl⟩
    rw [hW2] at hkr
    have HKR : Hid _ := hkr
    have hsr : W2.heap.size = Wr.heap.size := by rw [← hW2]; rfl
    have HSR : Hid _ := hsr
    replace hj := HJ.out _ _ _ _ hj (hkr _)
    replace hk := hk.trans (hkr _)
    replace hx := rowEl.keep hx (hkr (fun _ => True)).size (fun b hb _ => (hkr (fun _ => True)).block b hb trivial)
    rw [← hsr] at hg hsz
    clear hkr hsr
    have h1 := H1.out
    have hkz := hk.size
    have hbw : Below w0.heap.size w0 W2 := (HW.out.trans (H2.out.mono HW.out.size)).trans (hk.below (by have := HW.out.size; omega) (fun i hi h => by have := (HO.out i h).1; omega))
    have hcc2 : W2.cell? ⟨bc, 0, none⟩ = some c.val := (hbw.cell (p := ⟨bc, 0, none⟩) HBC.out).trans HCC.out
    have hc2 : c.At W2 := IntsAt.below hbw HC.out
    have hnW : ∀ b, W.heap.size ≤ b → ¬ o b := fun b hb h => by have := (HO.out b h).2; omega
    have hcy : W2.cell? ⟨W.heap.size, 0, none⟩ = some (.func (.yield l) #[] #[]) := cell_keep hcy1 hk (hnW _ (Nat.le_refl _))
    have hpk := pick_any x c W2 hx.1 hc2 (HIN.out _ (mem_of_pre hpre)) HCL.out
    obtain ⟨w3, hw3⟩ : ∃ w3, W2.alloc (.cells ((pickN x.xs c.xs).map (Value.int .i64)).toArray 3) = w3 := ⟨_, rfl⟩
    have hb3 : Below W2.heap.size W2 w3 := by rw [← hw3]; exact below_alloc _ _
    have hvl : (pickN x.xs c.xs).length = c.xs.length := by simp [pickN]
    have hat3 : (newEl 3 lo).At ⟨some ⟨W2.heap.size, 0, none⟩, (pickN x.xs c.xs).length, pickN x.xs c.xs⟩ w3 := by rw [← hw3]; exact ⟨own_of_alloc W2 _ _ (by rw [hvl]; have := HCL.out; omega), fun b hb => by cases hb; exact Nat.le_trans hlo hbw.size⟩
    have hs3 : w3.heap.size = W2.heap.size + 1 := by rw [← hw3]; simp
    rw [hw3] at hpk
    have hcc3 := cell_below hb3 hcc2
    have hcy3 := cell_below hb3 hcy
    have hj3 := HJ.out _ _ _ _ hj (Kept.of_below hb3 (fun b hb _ => hb))
    have hp3 : (zs ++ [(⟨some ⟨W2.heap.size, 0, none⟩, (pickN x.xs c.xs).length, pickN x.xs c.xs⟩ : IntsV)]).map (newEl 3 lo).key <+: rows.map fun r => pickN r c.xs := by
      have e1 : (zs ++ [(⟨some ⟨W2.heap.size, 0, none⟩, (pickN x.xs c.xs).length, pickN x.xs c.xs⟩ : IntsV)]).map (newEl 3 lo).key = (pre ++ [x]).map (fun r => pickN r.xs c.xs) := by
        rw [List.map_append, List.map_append]
        show zs.map IntsV.xs ++ _ = _
        rw [hz]
        rfl
      rw [e1]
      exact pre_pick c.xs hpre
    have hno : ∀ b, o1 b → b < W2.heap.size := fun b h => by
      rcases hg b h with h | h
      · have := (HO.out b h).2; omega
      · exact h.2
    obtain ⟨fn, tmps, assign, body, hy, hRR⟩ := HY.out zs _ o1 w3 hj3 hp3 hat3 (fun b hb => by
      have hb' : some W2.heap.size = some b := hb
      cases hb'
      exact ⟨fun h => by have := hno _ h; omega, .inr (by omega)⟩) (by omega)
    have hy' : (Instr.yield l #[.slice (some ⟨W2.heap.size, 0, none⟩) c.xs.length c.xs.length]).run Tryz.prog w3 = .ok (.round l fn tmps assign body) w3 := by
      have := hy
      unfold newEl IntsV.val at this
      simp only [hvl] at this
      exact this
    have HZ : Hid _ := hz
    have HK : Hid _ := hk
    have HG : Hid _ := hg
    have HN : Hid _ := hno
    have HB3 : Hid _ := hb3
    have HS3 : Hid _ := hs3
    have FIN : Hid (∀ (o2 : Nat → Prop) (W4 : World), J (zs ++ [⟨some ⟨W2.heap.size, 0, none⟩, (pickN x.xs c.xs).length, pickN x.xs c.xs⟩]) o2 W4 → Kept (fun b => ¬ o1 b) w3 W4 →
        (∀ b, o2 b → o1 b ∨ (w3.heap.size ≤ b ∧ b < W4.heap.size) ∨ ((newEl 3 lo).blk ⟨some ⟨W2.heap.size, 0, none⟩, (pickN x.xs c.xs).length, pickN x.xs c.xs⟩ = some b ∧ W.heap.size ≤ b)) →
        ∃ o2', (∃ zs, zs.map IntsV.xs = (pre ++ [x]).map (fun r => pickN r.xs c.xs) ∧ J zs o2' W4 ∧ Kept (fun b => ¬ o b) w1 W4 ∧ ∀ b, o2' b → o b ∨ (w1.heap.size ≤ b ∧ b < W4.heap.size)) ∧ Kept (fun b => ¬ o1 b) Wr W4 ∧
          ∀ b, o2' b → o1 b ∨ (Wr.heap.size ≤ b ∧ b < W4.heap.size) ∨ (rowEl.blk x = some b ∧ w1.heap.size ≤ b)) := by
      intro o2 W4 hj4 hk4 hg4
      have hs4 := hk4.size
      have hsr := HSR.out
      have hnew : ∀ b, o2 b → o1 b ∨ (W2.heap.size ≤ b ∧ b < W4.heap.size) := fun b hb => by
        rcases hg4 b hb with h | h | ⟨h, _⟩
        · exact .inl h
        · exact .inr ⟨by omega, h.2⟩
        · have hb' : some W2.heap.size = some b := h
          cases hb'
          exact .inr ⟨Nat.le_refl _, by omega⟩
      have hk24 : Kept (fun b => ¬ o1 b) W2 W4 := (Kept.of_below hb3 (fun b hb _ => hb)).trans hk4
      refine ⟨o2, ⟨_, ?_, hj4, hk.trans' hk24 ?_, ?_⟩, (HKR.out _).trans hk24, ?_⟩
      · rw [List.map_append, List.map_append, hz]
        rfl
      · intro b hb h h'
        rcases hg b h' with h' | h'
        · exact h h'
        · omega
      · intro b hb
        rcases hnew b hb with h | h
        · exact (hg b h).imp id (fun h => ⟨h.1, by omega⟩)
        · exact .inr ⟨by omega, h.2⟩
      · intro b hb
        rcases hnew b hb with h | h
        · exact .inl h
        · exact .inr (.inl ⟨by omega, h.2⟩)
    have hfol : Tryz.prog.follows .mixedOrders = true := by kernel_rfl
    clear hz hk hg hno hj hj3 hp3 hat3 hx hoff hpre hy hbw hc2 hnW hb3 hw3 hvl hs3
    obtain ⟨xad, xcap, xxs⟩ := x
    obtain ⟨cad, ccap, cxs⟩ := c
    unfold IntsV.val at *
    simp only at *
    gi_wp2
    gi_region_with_o (first | (refine ⟨trivial, rfl, CallsIn.inRound l2 (callsIn_wide.2 (hpk.mono ?_))⟩; rintro e w4 ⟨rfl, rfl⟩) | (refine ⟨rfl, hRR.mono ?_⟩; rintro e W4 ⟨rfl, o2, hj4, hk4, hg4⟩))
    all_goals gi_wp2
    all_goals exact FIN.out _ _ hj4 hk4 hg4
  case done =>
    rintro us o' W2 hus ⟨zs, hz, hj, hk, hg⟩ hk2 hg2 hD
    have h1 := H1.out
    gi_wp2
    have hnD : ¬ o' w1.heap.size := fun h => by
      rcases hg2 _ h with h | h
      · have := (HO.out _ h).2; omega
      · omega
    have hkD : Kept (fun b => b ≠ w1.heap.size) W2 (W2.putObj w1.heap.size (.deferred none)) := Kept.putObj _ _ (fun h => h rfl)
    refine ⟨by simp, .inl ⟨_, _, rfl, run_takeDeferred hD, ?_⟩⟩
    refine ⟨_, results_none rfl _ _ _, ⟨_, rfl⟩, zs, o', ?_, HJ.out _ _ _ _ hj (hkD.mono fun b _ h => ?_), ((Kept.of_below H2.out (fun b hb _ => hb)).trans' hk (fun b _ h => h)).trans' hkD (fun b hb _ => by omega), fun b h => (hg b h).imp id (fun h => ⟨by omega, by rw [World.putObj_size]; omega⟩)⟩
    · show zs.map IntsV.xs = _
      rw [hz, ← hus, List.map_map]
      rfl
    · rcases h with h | h
      · intro e; exact hnD (e ▸ h)
      · omega


set_option maxRecDepth 20000 in
set_option maxHeartbeats 4000000 in
theorem projectN_make (vi : Value) (c : IntsV) (rows : List (List Int)) (w : World) (hi : SeqV rowEl Tryz.prog vi rows w) (hc : c.At w) (hcl : c.xs.length ≤ 1000) (hin : ∀ r ∈ rows, allB c.xs r.length = true) :
    Calls Tryz.prog 74 #[vi, c.val] w fun e w' => ∃ v, e = .returned v ∧ SeqF Tryz.prog 3 v (rows.map fun r => pickN r c.xs) w' ∧ Below w.heap.size w w' := by
  obtain ⟨gi, lbi, rfl, egi, hsi⟩ := hi
  have hb1 := below_alloc w (.cells #[.func (.func gi) #[] lbi] 62)
  have hb2 := below_alloc (w.alloc (.cells #[.func (.func gi) #[] lbi] 62)) (.cells #[c.val] 23)
  have hb := hb1.trans (hb2.mono hb1.size)
  have hs : SeqF Tryz.prog 3 (.func (.func 96) #[] #[.pointer (some ⟨w.heap.size, 0, none⟩), .pointer (some ⟨w.heap.size + 1, 0, none⟩)]) (rows.map fun r => pickN r c.xs) ((w.alloc (.cells #[.func (.func gi) #[] lbi] 62)).alloc (.cells #[c.val] 23)) :=
    ⟨_, _, rfl, enters_of Tryz.func96 (by kernel_rfl) rfl, projectN_seq _ w.heap.size (w.heap.size + 1) gi lbi c rows _ (by simp; omega) (by simp) (by simp) (by simp) (IntsAt.below hb hc) hcl (Seq.later _ hsi hb) egi hin (Nat.le_refl _)⟩
  obtain ⟨cad, ccap, cxs⟩ := c
  unfold IntsV.val at *
  simp only at *
  have HS : Hid _ := hs
  have HB : Hid _ := hb
  clear hs hb hb1 hb2 hsi hc hcl hin
  go_enter Tryz.func74, Tryz.ntmps74
  go_wp2
  go_ret
  exact ⟨_, rfl, HS.out, HB.out⟩


set_option maxRecDepth 20000 in
set_option maxHeartbeats 8000000 in
/-- output, where nothing is grouped. -/
theorem outputPN_any (vi : Value) (q : QueryV) (rows : List (List Int)) (w : World) (hg : q.group = false) (hi : SeqV rowEl Tryz.prog vi rows w) (hc : q.sel.At w) (hcl : q.sel.xs.length ≤ 1000) (hin : ∀ r ∈ rows, allB q.sel.xs r.length = true) :
    Calls Tryz.prog 44 #[vi, .agg q.cells] w fun e w' => ∃ v, e = .returned v ∧ SeqF Tryz.prog 3 v (rows.map fun r => pickN r q.sel.xs) w' ∧ Below w.heap.size w w' := by
  have hb := below_alloc w (.cells q.cells 26)
  have hcon := projectN_make vi q.sel rows _ (hi.later hb) (IntsAt.below hb hc) hcl hin
  obtain ⟨gi, lbi, rfl, _, _⟩ := id hi
  clear hi hc hcl hin
  have HB : Hid _ := hb
  clear hb
  obtain ⟨src, wad, wcap, wh, group, keys, sums, ⟨lad, lcap, lxs⟩, ord⟩ := q
  unfold QueryV.cells IntsV.val at *
  simp only at *
  subst hg
  have hc5 : (w.alloc (.cells #[.slice src.ad src.xs.length src.cap, .slice wad wh.length wcap, .bool false, .slice keys.ad keys.xs.length keys.cap, .slice sums.ad sums.xs.length sums.cap, .slice lad lxs.length lcap, .slice ord.ad ord.xs.length ord.cap] 26)).cell? ⟨w.heap.size, 5, none⟩ = some (.slice lad lxs.length lcap) := by simp
  have hc2 : (w.alloc (.cells #[.slice src.ad src.xs.length src.cap, .slice wad wh.length wcap, .bool false, .slice keys.ad keys.xs.length keys.cap, .slice sums.ad sums.xs.length sums.cap, .slice lad lxs.length lcap, .slice ord.ad ord.xs.length ord.cap] 26)).cell? ⟨w.heap.size, 2, none⟩ = some (.bool false) := by simp
  go_enter Tryz.func44, Tryz.ntmps44
  go_wp2_with fail
  refine hcon.mono ?_
  rintro e w2 ⟨v, rfl, hs2, hb2⟩
  have HS : Hid _ := hs2
  obtain ⟨g2, lb2, rfl, _, _⟩ := id hs2
  clear hs2 hcon
  go_wp2
  go_ret
  exact ⟨_, rfl, HS.out, HB.out.trans (hb2.mono (by simp))⟩


end Go.Proofs.YtlpbelhfpoilpaaGreat

namespace Go.Proofs.YtlpbelhfpoilpaaGreat
open Go.RowKit Go.Scout Go.Shelf

attribute [local go_sem] Oper.semAt_some

set_option maxRecDepth 100000 in
set_option maxHeartbeats 8000000 in
theorem groupN_seq (lo : Nat) (bi bk bs gi : Nat) (lbi : Array Value) (kc sc : IntsV) (rows : List (List Int)) (w0 : World) (hbi : bi < w0.heap.size) (hbk : bk < w0.heap.size) (hbs : bs < w0.heap.size)
    (hci : w0.cell? ⟨bi, 0, none⟩ = some (.func (.func gi) #[] lbi)) (hck : w0.cell? ⟨bk, 0, none⟩ = some kc.val) (hcs : w0.cell? ⟨bs, 0, none⟩ = some sc.val) (hkc : kc.At w0) (hsc : sc.At w0) (hkl : kc.xs.length ≤ 4) (hsl : sc.xs.length ≤ 4)
    (hseq : Seq rowEl Tryz.prog gi lbi rows w0) (egi : ∀ args w, (callFunc gi args).run Tryz.prog w = .ok (.enter gi args) w) (hlen : rows.length ≤ 1000000) (hkin : ∀ r ∈ rows, allB kc.xs r.length = true) (hsin : ∀ r ∈ rows, allB sc.xs r.length = true) (hsm : ∀ r ∈ rows, ∀ v ∈ r, smallI v) (hlo : lo ≤ w0.heap.size) :
    Seq (newEl 3 lo) Tryz.prog 93 #[.pointer (some ⟨bi, 0, none⟩), .pointer (some ⟨bk, 0, none⟩), .pointer (some ⟨bs, 0, none⟩)] ((groupsN kc.xs sc.xs rows).map Gr.row) w0 := by
  intro l J W o hW ho hJ hY h0
  have c1 := (hW.cell (p := ⟨bi, 0, none⟩) hbi).trans hci
  have c2 := (hW.cell (p := ⟨bk, 0, none⟩) hbk).trans hck
  have c3 := (hW.cell (p := ⟨bs, 0, none⟩) hbs).trans hcs
  have hgg := gatherGroups_any gi lbi kc sc rows w0 W hW hseq egi (IntsAt.below hW hkc) (IntsAt.below hW hsc) hkl hsl hlen hkin hsin hsm
  have hgl : (groupsN kc.xs sc.xs rows).length ≤ 1000001 := by
    have h := fold_len kc.xs sc.xs (rows.map fun r => (⟨none, 0, r⟩ : IntsV)) (startG kc.xs sc.xs)
    rw [List.foldl_map, List.length_map] at h
    have h3 : (startG kc.xs sc.xs).length ≤ 1 := by unfold startG; split <;> simp
    have h' : (rows.foldl (Go.Scout.stepG kc.xs sc.xs) (startG kc.xs sc.xs)).length ≤ (startG kc.xs sc.xs).length + rows.length := h
    unfold groupsN
    omega
  have HGL : Hid _ := hgl
  have HLO : Hid (lo ≤ W.heap.size) := Nat.le_trans hlo hW.size
  have HY : Hid _ := hY
  have HO : Hid _ := ho
  have HW : Hid _ := hW
  have HJ : Hid _ := hJ
  have HSL : Hid _ := hsl
  have HKL : Hid _ := hkl
  have HLEN : Hid _ := hlen
  have HKEY : Hid (∀ g ∈ groupsN kc.xs sc.xs rows, g.key.length ≤ kc.xs.length ∧ g.cnt ≤ rows.length) := fun g hg => groupsN_bound g hg
  clear hY ho hW hJ hgl hseq egi hlen hkin hsin hsm hkc hsc hci hck hcs hbi hbk hbs hkl hsl
  obtain ⟨kad, kcap, kxs⟩ := kc
  obtain ⟨sad, scap, sxs⟩ := sc
  unfold IntsV.val at *
  simp only at *
  refine (callsIn_wide (n := 0)).1 (callsIn_of_wp Tryz.func93 rfl trivial ?_ rfl)
  simp only [Tryz.ntmps93, List.size_toArray, List.length_cons, List.length_nil, Nat.reduceAdd, Nat.reduceSub, Array.replicate_succ, Array.replicate_zero, List.push_toArray, List.append_toArray, List.nil_append, List.cons_append]
  gi_wp2
  refine ⟨trivial, rfl, callsIn_wide.2 (hgg.mono ?_)⟩
  rintro e Wg ⟨v, gs, rfl, hgs, hGr, hbg⟩
  clear hgg
  obtain ⟨vad, vcap, rfl⟩ := ownsRow_len hGr.own
  have hsg := hbg.size
  have h0' := HJ.out _ _ _ _ h0 (Kept.of_below (s := fun b => o b ∨ b < W.heap.size) hbg (fun b hb _ => hb))
  have hgsl : gs.length ≤ 1000001 := by
    have := congrArg List.length hgs
    rw [List.length_map] at this
    have := HGL.out
    omega
  have HBG : Hid _ := hbg
  have HSG : Hid _ := hsg
  have HGR : Hid _ := hGr
  have HGS : Hid _ := hgs
  clear hbg hsg hGr hgs c1 c2 c3 h0
  gi_wp2
  gi_loopw [12] (fun i wr => ∃ k : Nat, k ≤ gs.length ∧ i = .int .i64 k ∧ ∃ ys o1, Hid (ys.map IntsV.xs = (gs.take k).map (fun g => g.gr.row)) ∧ J ys o1 wr ∧ Hid (Kept (fun b => ¬ o b) Wg wr) ∧ Hid (∀ b, o1 b → o b ∨ (Wg.heap.size ≤ b ∧ b < wr.heap.size)))
    (fun i _ => gs.length - (intOf i).toNat)
  case atStart => exact ⟨0, Nat.zero_le _, rfl, [], o, rfl, h0', Kept.refl _ _, fun b h => .inl h⟩
  case round =>
    obtain ⟨k, hk, rfl, ys, o1, hys, hJs, hkw, ho1⟩ := hrel
    by_cases hlt : k < gs.length
    · have hGw := HGR.out.keep hkw.out (fun b hb => by
        intro h
        have h1 := (HO.out b h).2
        rcases grpsOwn_low HGR.out hb with h2 | h2 <;> omega)
      obtain ⟨gr, gcap, hv, hci⟩ := ptr_cell hGw hlt
      have hA := hGw.at' _ (List.getElem_mem hlt)
      have hke := HKEY.out gs[k].gr (by rw [← HGS.out]; exact List.mem_map_of_mem (List.getElem_mem hlt))
      have hkll : gs[k].k.xs.length ≤ 4 := by have h1 := hke.1; have h2 := HKL.out; have h3 : gs[k].gr.key = gs[k].k.xs := rfl; rw [h3] at h1; omega
      have hcn : gs[k].cnt ≤ 1000000 := by have h1 := hke.2; have h2 := HLEN.out; have h3 : gs[k].gr.cnt = gs[k].cnt := rfl; rw [h3] at h1; omega
      have hsl4 := HSL.out
      have hrow := groupRow_any gs[k].gb gs[k].sb gs[k].k gs[k].cnt gs[k].ss wr (by rw [hA.len]; exact hA.cells) hA.sums hA.key.1 hA.key.2.2 hkll (by rw [hA.len]; exact hsl4) hcn
      have hrl : (gs[k].k.xs ++ [(gs[k].cnt : Int)] ++ gs[k].ss).length ≤ 1000 := by have := hA.len; simp; omega
      have HRL : Hid _ := hrl
      have hsn : (gs.take k).map (fun g => g.gr.row) ++ [gs[k].gr.row] = (gs.take (k + 1)).map (fun g => g.gr.row) := by rw [List.take_succ_eq_append_getElem hlt, List.map_append]; rfl
      have HSN : Hid _ := hsn
      have HROW : Hid (gs[k].gr.row = gs[k].k.xs ++ [(gs[k].cnt : Int)] ++ gs[k].ss) := rfl
      obtain ⟨rfl, rfl⟩ : vad = some ⟨gr, 0, none⟩ ∧ vcap = gcap := by injection hv with h1 _ h2; exact ⟨h1, h2⟩
      clear hGw hA hke hkll hcn hrl hsn hsl4 hv
      gi_wp2
      refine ⟨trivial, rfl, callsIn_wide.2 (hrow.mono ?_)⟩
      rintro e w3 ⟨v3, rfl, hown, hb3⟩
      clear hrow
      obtain ⟨iv, rfl, hivx, hivat, hivb⟩ := ownEl_of_own hown (by have := HRL.out; omega)
      have hs3 := hb3.size
      have hk3 : ∀ s, Kept s wr w3 := fun s => Kept.of_below hb3 (fun b hb _ => hb)
      have hsg := HSG.out
      have hsw := hkw.out.size
      have hj3 := HJ.out _ _ _ _ hJs (hk3 _)
      have hno : ∀ b, o1 b → b < wr.heap.size := fun b hb => by
        rcases ho1.out b hb with h | h
        · have := (HO.out b h).2; omega
        · exact h.2
      have hp3 : (ys ++ [iv]).map (newEl 3 lo).key <+: (groupsN kxs sxs rows).map Gr.row := by
        have e1 : (ys ++ [iv]).map (newEl 3 lo).key = (gs.take (k + 1)).map (fun g => g.gr.row) := by
          rw [List.map_append, ← HSN.out]
          show ys.map IntsV.xs ++ [iv.xs] = _
          rw [hys.out, hivx, HROW.out]
        rw [e1, ← HGS.out, List.map_map]
        exact List.IsPrefix.map _ (List.take_prefix _ _)
      obtain ⟨fn, tmps, assign, body, hy, hRR⟩ := HY.out ys iv o1 w3 hj3 hp3 ⟨hivat, fun b hb => by have := hivb b hb; have := HLO.out; omega⟩ (fun b hb => ⟨fun h => by have := hno b h; have := hivb b hb; omega, .inr (by have := hivb b hb; omega)⟩) (by omega)
      have HIV : Hid _ := hivx
      have HIB : Hid _ := hivb
      have HIN : Hid (∀ b, rowEl.blk iv = some b → b < w3.heap.size) := fun b hb => rowEl.inn hivat.1 hb
      have HK3 : Hid _ := hk3
      have HNO : Hid _ := hno
      have HJ3 : Hid _ := hj3
      clear hown hb3 hk3 hp3 hivat hivx hivb hj3 hno
      obtain ⟨iad, icap, ixs⟩ := iv
      have hy' : (Instr.yield l #[.slice iad ixs.length icap]).run Tryz.prog w3 = .ok (.round l fn tmps assign body) w3 := hy
      unfold IntsV.val
      simp only
      clear hy
      gi_wp2
      refine ⟨rfl, hRR.mono ?_⟩
      rintro e W4 ⟨rfl, o2, hJ4, hk4, hg4⟩
      have HJ4 : Hid _ := hJ4
      have HK4 : Hid _ := hk4
      have HG4 : Hid _ := hg4
      clear hJ4 hk4 hg4 hRR hy'
      gi_wp2
      go_roundw
      case rel =>
        have hs4 := HK4.out.size
        refine ⟨k + 1, by omega, by simp, ys ++ [⟨iad, icap, ixs⟩], o2, ?_, HJ4.out, ?_, ?_⟩
        · show _ = _
          rw [List.map_append, hys.out, ← HSN.out]
          show _ ++ [ixs] = _
          have h : ixs = _ := HIV.out
          rw [h, HROW.out]
        · refine (hkw.out.trans (HK3.out _)).trans' HK4.out (fun b hb h h' => ?_)
          rcases ho1.out b h' with h' | h'
          · exact h h'
          · omega
        · intro b hb
          rcases HG4.out b hb with h | h | ⟨h, _⟩
          · rcases ho1.out b h with h | h
            · exact .inl h
            · exact .inr ⟨h.1, by omega⟩
          · exact .inr ⟨by omega, h.2⟩
          · have h1 := HIB.out b h
            have h2 : b < w3.heap.size := HIN.out b h
            exact .inr ⟨by omega, by omega⟩
      case measure => simp [intOf]; omega
    · obtain rfl : k = gs.length := by omega
      gi_wp2
      go_end0
      refine ⟨⟨_, rfl⟩, ys, o1, ?_, hJs, (Kept.of_below HBG.out (fun b hb _ => hb)).trans' hkw.out (fun b _ h => h), fun b hb => ?_⟩
      · show ys.map IntsV.xs = _
        rw [hys.out, List.take_length, ← HGS.out, List.map_map]
        rfl
      · rcases ho1.out b hb with h | h
        · exact .inl h
        · exact .inr ⟨by have := HSG.out; omega, h.2⟩


set_option maxRecDepth 20000 in
set_option maxHeartbeats 4000000 in
theorem groupN_make (vi : Value) (k s : IntsV) (rows : List (List Int)) (w : World) (hi : SeqV rowEl Tryz.prog vi rows w) (hk : k.At w) (hs : s.At w) (hkl : k.xs.length ≤ 4) (hsl : s.xs.length ≤ 4) (hlen : rows.length ≤ 1000000) (hkin : ∀ r ∈ rows, allB k.xs r.length = true) (hsin : ∀ r ∈ rows, allB s.xs r.length = true) (hsm : ∀ r ∈ rows, ∀ v ∈ r, smallI v) :
    Calls Tryz.prog 73 #[vi, k.val, s.val] w fun e w' => ∃ v, e = .returned v ∧ SeqF Tryz.prog 3 v ((groupsN k.xs s.xs rows).map Gr.row) w' ∧ Below w.heap.size w w' := by
  obtain ⟨gi, lbi, rfl, egi, hsi⟩ := hi
  have hb1 := below_alloc w (.cells #[.func (.func gi) #[] lbi] 62)
  have hb2 := below_alloc (w.alloc (.cells #[.func (.func gi) #[] lbi] 62)) (.cells #[k.val] 23)
  have hb3 := below_alloc ((w.alloc (.cells #[.func (.func gi) #[] lbi] 62)).alloc (.cells #[k.val] 23)) (.cells #[s.val] 23)
  have hb12 := hb1.trans (hb2.mono hb1.size)
  have hb := hb12.trans (hb3.mono hb12.size)
  have e1 : (((w.alloc (.cells #[.func (.func gi) #[] lbi] 62)).alloc (.cells #[k.val] 23)).alloc (.cells #[s.val] 23)).cell? ⟨w.heap.size, 0, none⟩ = some (.func (.func gi) #[] lbi) := cell_below (hb2.trans (hb3.mono hb2.size)) (cells_cell (heap_alloc_new w (.cells #[.func (.func gi) #[] lbi] 62)) rfl)
  have e2 : (((w.alloc (.cells #[.func (.func gi) #[] lbi] 62)).alloc (.cells #[k.val] 23)).alloc (.cells #[s.val] 23)).cell? ⟨w.heap.size + 1, 0, none⟩ = some k.val := by
    have h := heap_alloc_new (w.alloc (.cells #[.func (.func gi) #[] lbi] 62)) (.cells #[k.val] 23)
    rw [World.size_alloc] at h
    exact cell_below hb3 (cells_cell h rfl)
  have e3 : (((w.alloc (.cells #[.func (.func gi) #[] lbi] 62)).alloc (.cells #[k.val] 23)).alloc (.cells #[s.val] 23)).cell? ⟨w.heap.size + 1 + 1, 0, none⟩ = some s.val := by
    have h := heap_alloc_new ((w.alloc (.cells #[.func (.func gi) #[] lbi] 62)).alloc (.cells #[k.val] 23)) (.cells #[s.val] 23)
    rw [World.size_alloc, World.size_alloc] at h
    exact cells_cell h rfl
  have hS : SeqF Tryz.prog 3 (.func (.func 93) #[] #[.pointer (some ⟨w.heap.size, 0, none⟩), .pointer (some ⟨w.heap.size + 1, 0, none⟩), .pointer (some ⟨w.heap.size + 1 + 1, 0, none⟩)]) ((groupsN k.xs s.xs rows).map Gr.row) (((w.alloc (.cells #[.func (.func gi) #[] lbi] 62)).alloc (.cells #[k.val] 23)).alloc (.cells #[s.val] 23)) :=
    ⟨_, _, rfl, enters_of Tryz.func93 (by kernel_rfl) rfl, groupN_seq _ w.heap.size (w.heap.size + 1) (w.heap.size + 1 + 1) gi lbi k s rows (((w.alloc (.cells #[.func (.func gi) #[] lbi] 62)).alloc (.cells #[k.val] 23)).alloc (.cells #[s.val] 23)) (by simp; omega) (by simp) (by simp) e1 e2 e3 (IntsAt.below hb hk) (IntsAt.below hb hs) hkl hsl (Seq.later _ hsi hb) egi hlen hkin hsin hsm (Nat.le_refl _)⟩
  obtain ⟨kad, kcap, kxs⟩ := k
  obtain ⟨sad, scap, sxs⟩ := s
  unfold IntsV.val at *
  simp only at *
  have HS : Hid _ := hS
  have HB : Hid _ := hb
  clear hS hb hb1 hb2 hb3 hb12 e1 e2 e3 hsi hk hs hkl hsl hlen hkin hsin hsm
  go_enter Tryz.func73, Tryz.ntmps73
  go_wp2
  go_ret
  exact ⟨_, rfl, HS.out, HB.out⟩

set_option maxRecDepth 20000 in
set_option maxHeartbeats 8000000 in
/-- output, where it is grouped. -/
theorem outputGN_any (vi : Value) (q : QueryV) (rows : List (List Int)) (w : World) (hg : q.group = true) (hi : SeqV rowEl Tryz.prog vi rows w) (hk : q.keys.At w) (hs : q.sums.At w) (hkl : q.keys.xs.length ≤ 4) (hsl : q.sums.xs.length ≤ 4) (hlen : rows.length ≤ 1000000) (hkin : ∀ r ∈ rows, allB q.keys.xs r.length = true) (hsin : ∀ r ∈ rows, allB q.sums.xs r.length = true) (hsm : ∀ r ∈ rows, ∀ v ∈ r, smallI v) :
    Calls Tryz.prog 44 #[vi, .agg q.cells] w fun e w' => ∃ v, e = .returned v ∧ SeqF Tryz.prog 3 v ((groupsN q.keys.xs q.sums.xs rows).map Gr.row) w' ∧ Below w.heap.size w w' := by
  have hb := below_alloc w (.cells q.cells 26)
  have hdr : Below w.heap.size w (w.alloc (.cells q.cells 26)).drew := hb.drew
  have hcon := groupN_make vi q.keys q.sums rows (w.alloc (.cells q.cells 26)) (hi.later hb) (IntsAt.below hb hk) (IntsAt.below hb hs) hkl hsl hlen hkin hsin hsm
  obtain ⟨gi, lbi, rfl, _, _⟩ := id hi
  clear hi hk hs hkl hsl hlen hkin hsin hsm
  have HB : Hid _ := hb
  clear hb hdr
  obtain ⟨src, wad, wcap, wh, group, ⟨kad, kcap, kxs⟩, ⟨uad, ucap, uxs⟩, sel, ord⟩ := q
  unfold QueryV.cells IntsV.val at *
  simp only at *
  subst hg
  go_enter Tryz.func44, Tryz.ntmps44
  go_wp2_with fail
  refine hcon.mono ?_
  rintro e w2 ⟨v, rfl, hs2, hb2⟩
  have HS : Hid _ := hs2
  obtain ⟨g2, lb2, rfl, _, _⟩ := id hs2
  clear hs2 hcon
  go_wp2
  go_ret
  exact ⟨_, rfl, HS.out, HB.out.trans (hb2.mono (by simp))⟩


end Go.Proofs.YtlpbelhfpoilpaaGreat

namespace Go.Scout
open Go.RowKit

theorem rowKind_new (e : TypeId) (lo : Nat) : RowKind (newEl e lo) := ⟨fun _ => rfl, fun _ => rfl, fun _ => rfl, fun h => h.1.1⟩

end Go.Scout
namespace Go.Proofs.YtlpbelhfpoilpaaGreat
open Go.RowKit Go.Scout Go.Shelf

set_option maxRecDepth 20000 in
set_option maxHeartbeats 4000000 in
theorem sortF_make (vi : Value) (c : IntsV) (rows : List (List Int)) (w : World) (hi : SeqF Tryz.prog 3 vi rows w) (hc : c.At w) (h0 : 0 < c.xs.length) (hlen : rows.length ≤ 1000000) (hin : ∀ r ∈ rows, allB c.xs r.length = true) :
    Calls Tryz.prog 72 #[vi, c.val] w fun e w' => ∃ v, e = .returned v ∧ SeqF Tryz.prog 3 v (sortN c.xs rows) w' ∧ Below w.heap.size w w' := by
  obtain ⟨gi, lbi, rfl, egi, hsi⟩ := hi
  have hb1 := below_alloc w (.cells #[.func (.func gi) #[] lbi] 62)
  have hb2 := below_alloc (w.alloc (.cells #[.func (.func gi) #[] lbi] 62)) (.cells #[c.val] 23)
  have hb := hb1.trans (hb2.mono hb1.size)
  have hca : ∀ a, c.ad = some a → a.block < ((w.alloc (.cells #[.func (.func gi) #[] lbi] 62)).alloc (.cells #[c.val] 23)).heap.size := fun a ha => by
    obtain ⟨b, off, e, hcc⟩ := IntsAt.get hc h0
    rw [ha] at e
    cases e
    exact Nat.lt_of_lt_of_le (lt_of_cell (hcc 0 h0)) hb.size
  have hs : SeqF Tryz.prog 3 (.func (.func 89) #[] #[.pointer (some ⟨w.heap.size, 0, none⟩), .pointer (some ⟨w.heap.size + 1, 0, none⟩)]) (sortN c.xs rows) ((w.alloc (.cells #[.func (.func gi) #[] lbi] 62)).alloc (.cells #[c.val] 23)) :=
    ⟨_, _, rfl, enters_of Tryz.func89 (by kernel_rfl) rfl, sort_seq (rowKind_new 3 _) w.heap.size (w.heap.size + 1) gi lbi c rows _ (by simp; omega) (by simp) (by simp) (by simp) (IntsAt.below hb hc) hca (Seq.renew hsi hb) egi hlen hin⟩
  obtain ⟨cad, ccap, cxs⟩ := c
  unfold IntsV.val at *
  simp only at *
  have HS : Hid _ := hs
  have HB : Hid _ := hb
  clear hs hb hb1 hb2 hsi hc hlen hin hca
  go_enter Tryz.func72, Tryz.ntmps72
  go_wp2
  go_ret
  exact ⟨_, rfl, HS.out, HB.out⟩

set_option maxRecDepth 20000 in
set_option maxHeartbeats 4000000 in
theorem arrangedF_any (vi : Value) (c : IntsV) (rows : List (List Int)) (w : World) (hi : SeqF Tryz.prog 3 vi rows w) (hc : c.At w) (hlen : rows.length ≤ 1000000) (hin : ∀ r ∈ rows, allB c.xs r.length = true) :
    Calls Tryz.prog 43 #[vi, c.val] w fun e w' => ∃ v, e = .returned v ∧ SeqF Tryz.prog 3 v (sortN c.xs rows) w' ∧ Below w.heap.size w w' := by
  by_cases h0 : c.xs = []
  · rw [h0, sortN_none]
    obtain ⟨gi, lbi, rfl, _, _⟩ := id hi
    obtain ⟨cad, ccap, cxs⟩ := c
    simp only at h0
    subst h0
    refine (arranged0_any gi lbi cad ccap w).mono ?_
    rintro e w' ⟨rfl, rfl⟩
    exact ⟨_, rfl, hi, Below.refl _ _⟩
  · have hpos : 0 < c.xs.length := List.length_pos_iff.2 h0
    have hcon := sortF_make vi c rows w hi hc hpos hlen hin
    obtain ⟨gi, lbi, rfl, _, _⟩ := id hi
    obtain ⟨cad, ccap, cxs⟩ := c
    unfold IntsV.val at *
    simp only at *
    have hl := hc.1
    have hne : ((cxs.length : Int) == 0) = false := by
      have : ¬ (cxs.length : Int) = 0 := by omega
      simpa using this
    clear hi hc hlen hin h0
    go_enter Tryz.func43, Tryz.ntmps43
    go_wp2_with fail
    refine hcon.mono ?_
    rintro e w2 ⟨v, rfl, hs2, hb2⟩
    have HS : Hid _ := hs2
    obtain ⟨g2, lb2, rfl, _, _⟩ := id hs2
    clear hs2 hcon
    go_wp2
    go_ret
    exact ⟨_, rfl, HS.out, hb2⟩

set_option maxRecDepth 20000 in
set_option maxHeartbeats 8000000 in
/-- answer, by what its output is. -/
theorem answerF_any (q : QueryV) (d : Option Addr) (dcap : Nat) (db : List RowsV) (outR : List (List Int)) (w : World) (hq : q.At w) (hdb : DbHad w d db) (h1 : 0 < q.src.xs.length) (h5 : q.src.xs.length ≤ 5) (hcp : q.src.xs.length ≤ q.src.cap) (ha : allB q.src.xs db.length = true)
    (hrow : ∀ t, ∀ r ∈ tabN db t, r.length ≤ 100) (hlen : ∀ t, (tabN db t).length ≤ 1000000)
    (hcs : ∀ r ∈ combosN q.src.xs db, ∀ i, i < q.wh.length → ∀ k, k < (q.wh.getD i lz).cs.length → condB ((q.wh.getD i lz).cs.getD k cz) r.length = true)
    (hout : ∀ vf W, Below w.heap.size w W → SeqV rowEl Tryz.prog vf ((combosN q.src.xs db).filter (holdsB q.wh)) W → Calls Tryz.prog 44 #[vf, .agg q.cells] W fun e w' => ∃ v, e = .returned v ∧ SeqF Tryz.prog 3 v outR w' ∧ Below W.heap.size W w')
    (hol : outR.length ≤ 1000000) (hoi : ∀ r ∈ outR, allB q.ord.xs r.length = true) :
    Calls Tryz.prog 19 #[.agg q.cells, .slice d db.length dcap] w fun e w' => ∃ v, e = .returned v ∧ SeqF Tryz.prog 3 v (sortN q.ord.xs outR) w' ∧ Below w.heap.size w w' := by
  have hb := below_alloc w (.cells q.cells 26)
  have hcm := combinations_any q.src d dcap db _ (IntsAt.below hb hq.src) (hdb.below hb) h1 h5 hcp ha hrow hlen
  have HQ : Hid _ := hq
  have HB : Hid _ := hb
  have HCS : Hid _ := hcs
  obtain ⟨w1, hw1⟩ : ∃ w1, w.alloc (.cells q.cells 26) = w1 := ⟨_, rfl⟩
  have x1 : w1.cell? ⟨w.heap.size, 1, none⟩ = some (.slice q.wad q.wh.length q.wcap) := by rw [← hw1]; unfold QueryV.cells; simp
  have HX : Hid (w1.cell? ⟨w.heap.size, 0, none⟩ = some q.src.val ∧ w1.cell? ⟨w.heap.size, 1, none⟩ = some (.slice q.wad q.wh.length q.wcap) ∧ w1.cell? ⟨w.heap.size, 2, none⟩ = some (.bool q.group) ∧ w1.cell? ⟨w.heap.size, 3, none⟩ = some q.keys.val ∧ w1.cell? ⟨w.heap.size, 4, none⟩ = some q.sums.val ∧ w1.cell? ⟨w.heap.size, 5, none⟩ = some q.sel.val ∧ w1.cell? ⟨w.heap.size, 6, none⟩ = some q.ord.val) := by
    rw [← hw1]; unfold QueryV.cells; refine ⟨?_, ?_, ?_, ?_, ?_, ?_, ?_⟩ <;> simp
  rw [hw1] at HB hcm
  have HOU : Hid _ := hout
  have hord : q.ord.At w1 := IntsAt.below HB.out HQ.out.ord
  have HAR : Hid (∀ v W, Below w1.heap.size w1 W → SeqF Tryz.prog 3 v outR W → Calls Tryz.prog 43 #[v, q.ord.val] W fun e w' => ∃ v, e = .returned v ∧ SeqF Tryz.prog 3 v (sortN q.ord.xs outR) w' ∧ Below W.heap.size W w') :=
    fun v W hW hv => arrangedF_any v q.ord outR W hv (IntsAt.below hW hord) hol hoi
  clear hb hdb h1 h5 hcp ha hrow hlen hcs hq hout hol hoi hord
  have hcl : ClausesAt w1 q.wad q.wh := HQ.out.wh.below HB.out
  have HKE : Hid (∀ W x, Below w1.heap.size w1 W → IntsV.At x W → x.xs ∈ combosN q.src.xs db → Calls Tryz.prog 41 (#[x.val] ++ #[.pointer (some ⟨w.heap.size, 0, none⟩)]) W fun e W' => e = .returned (.bool (holdsB q.wh x.xs)) ∧ Below W.heap.size W W') := fun W x hW hx hm =>
    keep_any q w.heap.size x.ad x.cap x.xs W (cell_below hW x1) hx (hcl.below hW) (HCS.out _ hm)
  clear hcl x1
  generalize combosN q.src.xs db = rows at *
  generalize sortN q.ord.xs outR = res at *
  generalize hpp : holdsB q.wh = p at *
  obtain ⟨⟨sad, scap, src⟩, wad, wcap, wh, group, keys, sums, ⟨lad, lcap, lxs⟩, ⟨oad, ocap, oxs⟩⟩ := q
  unfold QueryV.cells IntsV.val at *
  simp only at *
  clear hpp
  obtain ⟨c0, c1, c2, c3, c4, c5, c6⟩ := HX.out
  have hw1' := hw1
  go_enter Tryz.func19, Tryz.ntmps19
  go_wp2_with fail
  refine hcm.mono ?_
  rintro e w2 ⟨vc, rfl, hsc, hb2⟩
  have hfm := filter_make vc 41 #[.pointer (some ⟨w.heap.size, 0, none⟩)] rows p w2 hsc (enters_of Tryz.func41 (by kernel_rfl) rfl) (fun W x hW hx hm => HKE.out W x (hb2.trans (hW.mono hb2.size)) hx hm)
  obtain ⟨g2, lb2, rfl, _, _⟩ := id hsc
  clear hsc hcm
  go_wp2_with fail
  refine hfm.mono ?_
  rintro e w3 ⟨vf, rfl, hsf, hb3⟩
  clear hfm
  have hb13 : Below w1.heap.size w1 w3 := hb2.trans (hb3.mono hb2.size)
  have d0 := cell_below hb13 c0
  have d1 := cell_below hb13 c1
  have d2 := cell_below hb13 c2
  have d3 := cell_below hb13 c3
  have d4 := cell_below hb13 c4
  have d5 := cell_below hb13 c5
  have d6 := cell_below hb13 c6
  have hdr : Below w3.heap.size w3 w3.drew := (Below.refl _ _).drew
  have hfb : Below w.heap.size w w3.drew := (HB.out.trans (hb13.mono HB.out.size)).drew
  have hou := HOU.out vf w3.drew hfb (hsf.later hdr)
  obtain ⟨g3, lb3, rfl, _, _⟩ := id hsf
  have FB : Hid (Below w.heap.size w w3.drew) := hfb
  have F1 : Hid (Below w1.heap.size w1 w3.drew) := hb13.drew
  clear hfb
  clear hsf hb13 hdr hb2 hb3 HOU HKE HCS HQ c0 c1 c2 c3 c4 c5 c6
  go_wp2
  go_region_with (first | (refine hou.mono ?_; rintro e w4 ⟨v4, rfl, hs4, hb4⟩; have e6 := cell_below hb4 d6; have har := HAR.out v4 w4 (F1.out.trans (hb4.mono F1.out.size)) hs4; obtain ⟨g4, lb4, rfl, _, _⟩ := hs4) | (refine har.mono ?_; rintro e w5 ⟨v5, rfl, hs5, hb5⟩; have HS5 : Hid _ := hs5; obtain ⟨g5, lb5, rfl, _, _⟩ := hs5))
  all_goals
    go_wp2
    go_ret
    exact ⟨_, rfl, HS5.out, FB.out.trans ((hb4.trans (hb5.mono hb4.size)).mono FB.out.size)⟩

end Go.Proofs.YtlpbelhfpoilpaaGreat

