import Derived.Test.YtlpbelhfpoilpaaCPure0BaseRPure1DatA
import Derived.Test.YtlpbelhfpoilpaaCItF
set_option linter.all false
namespace Go.Scout
open Go.RowKit

/-- A function value over which one can range. -/
def SeqV (E : El IntsV (List Int)) (P : Program) (v : Value) (rows : List (List Int)) (w : World) : Prop :=
  ∃ g lb, v = .func (.func g) #[] lb ∧ (∀ args w, (callFunc g args).run P w = .ok (.enter g args) w) ∧ Seq E P g lb rows w

theorem SeqV.later {E : El IntsV (List Int)} {P : Program} {v : Value} {rows : List (List Int)} {w w' : World} (h : SeqV E P v rows w) (hb : Below w.heap.size w w') : SeqV E P v rows w' := by
  obtain ⟨g, lb, hv, eg, hs⟩ := h
  exact ⟨g, lb, hv, eg, Seq.later E hs hb⟩

def tabN (db : List RowsV) (t : Int) : List (List Int) := (db.getD t.toNat rz).rs.map (·.xs)
def combosT : List (List (List Int)) → List (List Int)
  | [] => []
  | t :: ts => ts.foldl joinN t
theorem combosT_snoc {t x : List (List Int)} {ts : List (List (List Int))} : combosT (t :: (ts ++ [x])) = joinN (combosT (t :: ts)) x := by simp [combosT, List.foldl_append]
def combosN (src : List Int) (db : List RowsV) : List (List Int) := combosT (src.map (tabN db))

theorem combosN_succ {src : List Int} {db : List RowsV} {k : Nat} (hk : k + 1 < src.length) : combosN (src.take (k + 2)) db = joinN (combosN (src.take (k + 1)) db) (tabN db src[k + 1]) := by
  unfold combosN
  rw [List.take_succ_eq_append_getElem hk, List.map_append]
  cases src with
  | nil => simp at hk
  | cons a l =>
    rw [List.take_succ_cons, List.map_cons, List.cons_append, List.map_cons, List.map_nil]
    exact combosT_snoc

theorem joinN_le {L R : List (List Int)} {m n : Nat} (hL : ∀ a ∈ L, a.length ≤ m) (hR : ∀ a ∈ R, a.length ≤ n) : ∀ a ∈ joinN L R, a.length ≤ m + n := by
  intro a ha
  unfold joinN at ha
  obtain ⟨x, hx, ha⟩ := List.mem_flatMap.1 ha
  obtain ⟨y, hy, rfl⟩ := List.mem_map.1 ha
  have := hL x hx
  have := hR y hy
  rw [List.length_append]
  omega

/-- A database whose tables lie in memory that there is. -/
def DbHad (w : World) (d : Option Addr) (db : List RowsV) : Prop := DbAt w d db ∧ ∀ i, i < db.length → RowsHad w (db.getD i rz).ad (db.getD i rz).rs
theorem DbHad.below {w w' : World} (hb : Below w.heap.size w w') {d : Option Addr} {db : List RowsV} (h : DbHad w d db) : DbHad w' d db := ⟨h.1.below hb, fun i hi => (h.2 i hi).below hb⟩

end Go.Scout
namespace Go.Proofs.Ytlpbelhfpoilpaa
open Go.RowKit Go.Scout Go.Shelf

set_option maxRecDepth 20000 in
set_option maxHeartbeats 4000000 in
theorem scan_make (t : RowsV) (w : World) (h : RowsHad w t.ad t.rs) :
    Calls Try.prog 70 #[t.val] w fun e w' => ∃ v, e = .returned v ∧ SeqV rowEl Try.prog v (t.rs.map (·.xs)) w' ∧ Below w.heap.size w w' := by
  obtain ⟨ad, cap, rs⟩ := t
  unfold RowsV.val
  simp only at *
  have hb := below_alloc w (.cells #[.slice ad rs.length cap] 53)
  have hs : SeqV rowEl Try.prog (.func (.func 84) #[] #[.pointer (some ⟨w.heap.size, 0, none⟩)]) (rs.map (·.xs)) (w.alloc (.cells #[.slice ad rs.length cap] 53)) :=
    ⟨_, _, rfl, enters_of Try.func84 (by kernel_rfl) rfl, scan_seq w.heap.size ad cap rs _ (by simp) (by simp) (h.below hb)⟩
  have HS : Hid _ := hs
  have HB : Hid _ := hb
  clear hs hb h
  go_enter Try.func70, Try.ntmps70
  go_wp2
  go_ret
  exact ⟨_, rfl, HS.out, HB.out⟩

set_option maxRecDepth 20000 in
set_option maxHeartbeats 4000000 in
theorem loop_make (vl vr : Value) (L R : List (List Int)) (w : World) (hl : SeqV rowEl Try.prog vl L w) (hr : SeqV rowEl Try.prog vr R w) (hR : R.length ≤ 1000000) (hLl : ∀ a ∈ L, a.length ≤ 1000) (hRl : ∀ a ∈ R, a.length ≤ 1000) :
    Calls Try.prog 71 #[vl, vr] w fun e w' => ∃ v, e = .returned v ∧ SeqV rowEl Try.prog v (joinN L R) w' ∧ Below w.heap.size w w' := by
  obtain ⟨gl, lbl, rfl, egl, hsl⟩ := hl
  obtain ⟨gr, lbr, rfl, egr, hsr⟩ := hr
  have hb1 := below_alloc w (.cells #[.func (.func gl) #[] lbl] 87)
  have hb2 := below_alloc (w.alloc (.cells #[.func (.func gl) #[] lbl] 87)) (.cells #[.func (.func gr) #[] lbr] 87)
  have hb := hb1.trans (hb2.mono hb1.size)
  have hs : SeqV rowEl Try.prog (.func (.func 85) #[] #[.pointer (some ⟨w.heap.size + 1, 0, none⟩), .pointer (some ⟨w.heap.size, 0, none⟩)]) (joinN L R) ((w.alloc (.cells #[.func (.func gl) #[] lbl] 87)).alloc (.cells #[.func (.func gr) #[] lbr] 87)) :=
    ⟨_, _, rfl, enters_of Try.func85 (by kernel_rfl) rfl, loop_seq (w.heap.size + 1) w.heap.size gr gl lbr lbl L R _ (by simp) (by simp; omega) (by simp) (by simp) (Seq.later _ hsr hb) (Seq.later _ hsl hb) egr egl hR hLl hRl⟩
  have HS : Hid _ := hs
  have HB : Hid _ := hb
  clear hs hb hb1 hb2 hsl hsr hR hLl hRl
  go_enter Try.func71, Try.ntmps71
  go_wp2
  go_ret
  exact ⟨_, rfl, HS.out, HB.out⟩

set_option maxRecDepth 20000 in
set_option maxHeartbeats 4000000 in
theorem filter_make (vi : Value) (gk : Nat) (lbk : Array Value) (rows : List (List Int)) (p : List Int → Bool) (w : World) (hi : SeqV rowEl Try.prog vi rows w) (egk : ∀ args w, (callFunc gk args).run Try.prog w = .ok (.enter gk args) w)
    (hkeep : ∀ W x, Below w.heap.size w W → IntsV.At x W → x.xs ∈ rows → Calls Try.prog gk (#[x.val] ++ lbk) W fun e W' => e = .returned (.bool (p x.xs)) ∧ Below W.heap.size W W') :
    Calls Try.prog 51 #[vi, .func (.func gk) #[] lbk] w fun e w' => ∃ v, e = .returned v ∧ SeqV rowEl Try.prog v (rows.filter p) w' ∧ Below w.heap.size w w' := by
  obtain ⟨gi, lbi, rfl, egi, hsi⟩ := hi
  have hb1 := below_alloc w (.cells #[.func (.func gi) #[] lbi] 87)
  have hb2 := below_alloc (w.alloc (.cells #[.func (.func gi) #[] lbi] 87)) (.cells #[.func (.func gk) #[] lbk] 73)
  have hb := hb1.trans (hb2.mono hb1.size)
  have hs : SeqV rowEl Try.prog (.func (.func 69) #[] #[.pointer (some ⟨w.heap.size, 0, none⟩), .pointer (some ⟨w.heap.size + 1, 0, none⟩)]) (rows.filter p) ((w.alloc (.cells #[.func (.func gi) #[] lbi] 87)).alloc (.cells #[.func (.func gk) #[] lbk] 73)) :=
    ⟨_, _, rfl, enters_of Try.func69 (by kernel_rfl) rfl, filter_seq w.heap.size (w.heap.size + 1) gi gk lbi lbk rows p _ (by simp; omega) (by simp) (by simp) (by simp) (Seq.later _ hsi hb) egi egk (fun W x hW hx hm => hkeep W x (hb.trans (hW.mono hb.size)) hx hm)⟩
  have HS : Hid _ := hs
  have HB : Hid _ := hb
  clear hs hb hb1 hb2 hsi hkeep
  go_enter Try.func51, Try.ntmps51
  go_wp2
  go_ret
  exact ⟨_, rfl, HS.out, HB.out⟩

set_option maxRecDepth 20000 in
set_option maxHeartbeats 4000000 in
theorem project_make (vi : Value) (c : IntsV) (rows : List (List Int)) (w : World) (hi : SeqV rowEl Try.prog vi rows w) (hc : c.At w) (hcl : c.xs.length ≤ 1000) (hin : ∀ r ∈ rows, allB c.xs r.length = true) :
    Calls Try.prog 75 #[vi, c.val] w fun e w' => ∃ v, e = .returned v ∧ SeqV (ownEl 3) Try.prog v (rows.map fun r => pickN r c.xs) w' ∧ Below w.heap.size w w' := by
  obtain ⟨gi, lbi, rfl, egi, hsi⟩ := hi
  have hb1 := below_alloc w (.cells #[.func (.func gi) #[] lbi] 87)
  have hb2 := below_alloc (w.alloc (.cells #[.func (.func gi) #[] lbi] 87)) (.cells #[c.val] 23)
  have hb := hb1.trans (hb2.mono hb1.size)
  have hs : SeqV (ownEl 3) Try.prog (.func (.func 95) #[] #[.pointer (some ⟨w.heap.size, 0, none⟩), .pointer (some ⟨w.heap.size + 1, 0, none⟩)]) (rows.map fun r => pickN r c.xs) ((w.alloc (.cells #[.func (.func gi) #[] lbi] 87)).alloc (.cells #[c.val] 23)) :=
    ⟨_, _, rfl, enters_of Try.func95 (by kernel_rfl) rfl, project_seq w.heap.size (w.heap.size + 1) gi lbi c rows _ (by simp; omega) (by simp) (by simp) (by simp) (IntsAt.below hb hc) hcl (Seq.later _ hsi hb) egi hin⟩
  obtain ⟨cad, ccap, cxs⟩ := c
  unfold IntsV.val at *
  simp only at *
  have HS : Hid _ := hs
  have HB : Hid _ := hb
  clear hs hb hb1 hb2 hsi hc hcl hin
  go_enter Try.func75, Try.ntmps75
  go_wp2
  go_ret
  exact ⟨_, rfl, HS.out, HB.out⟩

end Go.Proofs.Ytlpbelhfpoilpaa

