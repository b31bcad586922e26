import Derived.Test.YtlpbelhfpoilpaaGreatCBaseRItAItBItC
import Derived.Test.YtlpbelhfpoilpaaGreatCBase5PickAItFPure0
import Derived.Test.YtlpbelhfpoilpaaGreatCPure1MkATruATruB
set_option linter.all false
namespace Go.Scout
open Go.RowKit

theorem tabN_len (db : List RowsV) (t : Int) : (tabN db t).length = (db.getD t.toNat rz).rs.length := by simp [tabN]

theorem combosN_le {src : List Int} {db : List RowsV} (hrow : ∀ t, ∀ r ∈ tabN db t, r.length ≤ 100) (hl : src.length ≤ 5) : ∀ a ∈ combosN src db, a.length ≤ 1000 := by
  have hg : ∀ (ts : List (List (List Int))) (t : List (List Int)) (m : Nat), (∀ a ∈ t, a.length ≤ m) → (∀ x ∈ ts, ∀ a ∈ x, a.length ≤ 100) → ∀ a ∈ ts.foldl joinN t, a.length ≤ m + 100 * ts.length := by
    intro ts
    induction ts with
    | nil => intro t m h _ a ha; have := h a ha; simpa using this
    | cons x ts ih =>
      intro t m h hx a ha
      have := ih (joinN t x) (m + 100) (joinN_le h (hx x (by simp))) (fun y hy => hx y (by simp [hy])) a ha
      rw [List.length_cons]
      omega
  intro a ha
  unfold combosN at ha
  cases src with
  | nil => simp [combosT] at ha
  | cons b l =>
    have := hg (l.map (tabN db)) (tabN db b) 100 (hrow b) (fun x hx a ha => by
      obtain ⟨t, _, rfl⟩ := List.mem_map.1 hx
      exact hrow t a ha) a ha
    rw [List.length_map] at this
    rw [List.length_cons] at hl
    omega

end Go.Scout
namespace Go.Proofs.YtlpbelhfpoilpaaGreat
open Go.RowKit Go.Scout Go.Shelf

set_option maxRecDepth 20000 in
set_option maxHeartbeats 8000000 in
theorem combinations_any (s : IntsV) (d : Option Addr) (dcap : Nat) (db : List RowsV) (w : World) (hs : s.At w) (hdb : DbHad w d db) (h1 : 0 < s.xs.length) (h5 : s.xs.length ≤ 5) (hcp : s.xs.length ≤ s.cap) (ha : allB s.xs db.length = true)
    (hrow : ∀ t, ∀ r ∈ tabN db t, r.length ≤ 100) (hlen : ∀ t, (tabN db t).length ≤ 1000000) :
    Calls Tryz.prog 40 #[s.val, .slice d db.length dcap] w fun e w' => ∃ v, e = .returned v ∧ SeqV rowEl Tryz.prog v (combosN s.xs db) w' ∧ Below w.heap.size w w' := by
  obtain ⟨sad, scap, src⟩ := s
  unfold IntsV.val
  simp only at *
  have hl2 := hdb.1.1
  have HS : Hid _ := hs
  have HD : Hid _ := hdb
  have HA : Hid _ := ha
  have HRO : Hid _ := hrow
  have HLN : Hid _ := hlen
  clear hs hdb ha hrow hlen
  have hr0 := allB_at HA.out h1
  obtain ⟨b1, o1, rfl, hc1⟩ := HS.out.get h1
  have hck0 := hc1 0 h1
  have hj0 : src[0].toNat < db.length := by omega
  obtain ⟨b2, o2, rfl, hc2⟩ := HD.out.1.2.1.get hj0
  have hcl0 := hc2 _ hj0
  have e1 : src.getD 0 0 = src[0] := by simp [List.getD, h1]
  rw [e1, Nat.add_zero] at hck0
  have hcon := scan_make (db.getD src[0].toNat rz) w (HD.out.2 _ hj0)
  have hc01 : combosN (src.take 1) db = tabN db src[0] := by
    cases src with
    | nil => simp at h1
    | cons a l => simp [combosN, combosT]
  have HC1 : Hid _ := hc01
  have hcon' : Calls Tryz.prog 69 #[(db.getD src[0].toNat rz).val] w fun e w' => ∃ v, e = .returned v ∧ SeqV rowEl Tryz.prog v (tabN db src[0]) w' ∧ Below w.heap.size w w' := hcon
  rw [← hc01] at hcon'
  have HC2 : Hid (∀ j, j < db.length → w.cell? ⟨b2, o2 + j, none⟩ = some (db.getD j rz).val) := hc2
  have HCC : Hid (∀ j, j < src.length → w.cell? ⟨b1, o1 + j, none⟩ = some (.int .i64 (src.getD j 0))) := hc1
  clear hcon hc01 e1 hc1 hc2
  generalize db.getD src[0].toNat rz = x at *
  obtain ⟨xad, xcap, xs⟩ := x
  unfold RowsV.val at *
  simp only at *
  generalize hsv : src[0] = s0 at *
  clear hsv
  obtain ⟨cn, rfl⟩ : ∃ cn : Nat, s0 = (cn : Int) := ⟨s0.toNat, by omega⟩
  simp only [Int.toNat_natCast] at hj0 hcl0
  by_cases hone : src.length = 1
  · have hlst : src.take 1 = src := by rw [List.take_of_length_le (by omega)]
    rw [hlst] at hcon'
    have hlen1 : src.length - 1 = 0 := by omega
    clear hone hlst HC1 HC2 HCC
    go_enter Tryz.func40, Tryz.ntmps40
    go_wp2_with fail
    refine hcon'.mono ?_
    rintro e w2 ⟨v, rfl, hsv, hb2⟩
    have HSV : Hid _ := hsv
    obtain ⟨g0, lb0, rfl, _, _⟩ := hsv
    clear hcon'
    go_wp2
    all_goals
      go_loopw [5, 18] (fun v i wr => i = .int .i64 0 ∧ v = .func (.func g0) #[] lb0 ∧ w2 = wr) (fun _ _ _ => 0)
      case atStart => exact ⟨rfl, rfl, rfl⟩
      case round =>
        obtain ⟨rfl, rfl, rfl⟩ := hrel
        go_wp2
        go_ret
        exact ⟨_, rfl, HSV.out, hb2⟩
  · have h2 : 2 ≤ src.length := by omega
    have hsc : 2 ≤ scap := by omega
    clear hone
    go_enter Tryz.func40, Tryz.ntmps40
    go_wp2_with fail
    refine hcon'.mono ?_
    rintro e w2 ⟨v, rfl, hsv, hb2⟩
    have HSV : Hid _ := hsv
    obtain ⟨g0, lb0, rfl, _, _⟩ := id hsv
    clear hcon' hsv
    go_wp2
    go_loopw [5, 18] (fun v i wr => ∃ k : Nat, k + 1 ≤ src.length ∧ i = .int .i64 k ∧ SeqV rowEl Tryz.prog v (combosN (src.take (k + 1)) db) wr ∧ Below w.heap.size w wr) (fun _ i _ => src.length - (intOf i).toNat)
    case atStart => exact ⟨0, by omega, rfl, HSV.out, hb2⟩
    case round =>
      obtain ⟨k, hk, rfl, hsq, hbr⟩ := hrel
      obtain ⟨gk, lbk, rfl, egk, hseqk⟩ := id hsq
      have HSQ : Hid _ := hsq
      clear hsq hseqk egk
      by_cases hlt : k + 1 < src.length
      · have hr := allB_at HA.out hlt
        have hck := cell_below hbr (HCC.out _ hlt)
        have hj : src[k + 1].toNat < db.length := by omega
        have hcl := cell_below hbr (HC2.out _ hj)
        have e2 : src.getD (k + 1) 0 = src[k + 1] := by simp [List.getD, hlt]
        rw [e2] at hck
        have hsc2 := scan_make (db.getD src[k + 1].toNat rz) wr ((HD.out.2 _ hj).below hbr)
        have hsc3 : Calls Tryz.prog 69 #[(db.getD src[k + 1].toNat rz).val] wr fun e w' => ∃ v, e = .returned v ∧ SeqV rowEl Tryz.prog v (tabN db src[k + 1]) w' ∧ Below wr.heap.size wr w' := hsc2
        have HCS : Hid _ := combosN_succ (db := db) hlt
        have hle : ∀ a ∈ combosN (src.take (k + 1)) db, a.length ≤ 1000 := fun a ha => combosN_le HRO.out (by rw [List.length_take]; omega) a ha
        have HLE : Hid _ := hle
        have HT : Hid (∀ a ∈ tabN db src[k + 1], a.length ≤ 1000) := fun a ha => by have := HRO.out _ a ha; omega
        have HTL : Hid ((tabN db src[k + 1]).length ≤ 1000000) := HLN.out _
        have hoff : o1 + 1 + k = o1 + (k + 1) := by omega
        rw [← hoff] at hck
        clear hsc2 e2 hle
        generalize tabN db src[k + 1] = T at *
        generalize db.getD src[k + 1].toNat rz = y at *
        obtain ⟨yad, ycap, ys⟩ := y
        unfold RowsV.val at *
        simp only at *
        generalize hsv : src[k + 1] = s1 at *
        clear hsv hoff
        obtain ⟨cm, rfl⟩ : ∃ cm : Nat, s1 = (cm : Int) := ⟨s1.toNat, by omega⟩
        simp only [Int.toNat_natCast] at hj hcl
        have hlt1 : k < src.length - 1 := by omega
        go_wp2_with fail
        refine hsc3.mono ?_
        rintro e w3 ⟨v3, rfl, hs3, hb3⟩
        have hlm := loop_make (.func (.func gk) #[] lbk) v3 _ T w3 (SeqV.later HSQ.out hb3) hs3 HTL.out HLE.out HT.out
        obtain ⟨g3, lb3, rfl, _, _⟩ := id hs3
        clear hs3
        go_wp2_with fail
        refine hlm.mono ?_
        rintro e w4 ⟨v4, rfl, hs4, hb4⟩
        have HS4 : Hid _ := hs4
        have HB4 : Hid (Below w.heap.size w w4) := hbr.trans ((hb3.mono hbr.size).trans (hb4.mono (Nat.le_trans hbr.size hb3.size)))
        obtain ⟨g4, lb4, rfl, _, _⟩ := id hs4
        clear hs4 hb3 hb4 hlm hsc3 hck hcl
        go_wp2
        go_roundw
        case rel => exact ⟨k + 1, by omega, by go_num, by rw [HCS.out]; exact HS4.out, HB4.out⟩
        case measure => simp [intOf]; omega
      · have hkk : src.take (k + 1) = src := List.take_of_length_le (by omega)
        rw [hkk] at HSQ
        have hge : ¬ k < src.length - 1 := by omega
        clear hkk
        go_wp2
        go_ret
        exact ⟨_, rfl, HSQ.out, hbr⟩

end Go.Proofs.YtlpbelhfpoilpaaGreat

namespace Go.Scout
open Go.RowKit

/-! Rows of elements of several cells. -/

theorem length_flat {α : Type} (f : α → List Value) (s : Nat) (hf : ∀ x, (f x).length = s) : ∀ xs : List α, (xs.flatMap f).length = xs.length * s
  | [] => by simp
  | x :: xs => by
    rw [List.flatMap_cons, List.length_append, hf, length_flat f s hf xs, List.length_cons, Nat.add_mul, Nat.one_mul, Nat.add_comm]

theorem flat_at {α : Type} (f : α → List Value) (s : Nat) (hf : ∀ x, (f x).length = s) (z : α) : ∀ (xs : List α) (rest : List Value) (i j : Nat), i < xs.length → j < s → (xs.flatMap f ++ rest)[i * s + j]? = (f (xs.getD i z))[j]?
  | [], _, i, _, hi, _ => absurd hi (by simp)
  | x :: xs, rest, 0, j, _, hj => by
    rw [List.flatMap_cons, List.append_assoc, Nat.zero_mul, Nat.zero_add, List.getElem?_append_left (by rw [hf]; exact hj)]
    rfl
  | x :: xs, rest, i + 1, j, hi, hj => by
    have ih := flat_at f s hf z xs rest i j (by simpa using hi) hj
    rw [List.flatMap_cons, List.append_assoc, List.getElem?_append_right (by rw [hf, Nat.add_mul]; omega), hf]
    rw [show (i + 1) * s + j - s = i * s + j by rw [Nat.add_mul]; omega, ih]
    rfl

theorem flat_tail {α : Type} (f : α → List Value) (s : Nat) (hf : ∀ x, (f x).length = s) (xs : List α) (rest : List Value) (j : Nat) : (xs.flatMap f ++ rest)[xs.length * s + j]? = rest[j]? := by
  have hl := length_flat f s hf xs
  rw [List.getElem?_append_right (by omega), hl]
  congr 1
  omega

theorem flat_set {α : Type} (f : α → List Value) (s : Nat) (hf : ∀ x, (f x).length = s) (xs : List α) (rest : List Value) (j : Nat) (v : Value) : (xs.flatMap f ++ rest).set (xs.length * s + j) v = xs.flatMap f ++ rest.set j v := by
  have hl := length_flat f s hf xs
  rw [List.set_append_right _ _ (by omega), hl]
  congr 2
  omega

theorem made_drop (z : Array Value) (s n : Nat) (hs : z.size = s) (_h0 : 0 < s) : (madeCells z ((n + 2) * s)).toList.drop (n * s) = z.toList ++ z.toList := by
  apply List.ext_getElem?
  intro i
  rw [List.getElem?_drop]
  unfold madeCells
  rw [Array.toList_map, Array.toList_range, List.getElem?_map]
  have e2 : (n + 2) * s = n * s + 2 * s := by rw [Nat.add_mul]
  have hmod : ∀ i, (n * s + i) % s = i % s := fun i => by rw [Nat.add_comm, Nat.add_mul_mod_self_right]
  by_cases hi : i < 2 * s
  · rw [List.getElem?_range (by omega), Option.map_some, hs, hmod]
    by_cases h1 : i < s
    · rw [List.getElem?_append_left (by simpa [hs] using h1), Nat.mod_eq_of_lt h1]
      rw [getElem!_pos z i (by omega)]
      simp [hs, h1]
    · rw [List.getElem?_append_right (by simp [hs]; omega)]
      have : i % s = i - s := by rw [Nat.mod_eq_sub_mod (by omega), Nat.mod_eq_of_lt (by omega)]
      rw [this, getElem!_pos z (i - s) (by omega)]
      simp [hs, show i - s < s by omega]
  · have h2 : ¬ n * s + i < (n + 2) * s := by omega
    simp [h2]
    rw [hs]
    omega

def CondD.vals (c : CondD) : List Value := [.bool c.not, .int .i64 c.op, .int .i64 c.left, .bool c.const, .int .i64 c.right]
def zc : List Value := [.bool false, .int .i64 0, .int .i64 0, .bool false, .int .i64 0]
def ic : List Value := [.bool false, .int .i64 77777, .int .i64 0, .bool false, .int .i64 0]
def conds1 (cs : List CondD) : Array Value := (cs.flatMap CondD.vals ++ (zc ++ zc)).toArray
def conds2 (cs : List CondD) : Array Value := (cs.flatMap CondD.vals ++ (ic ++ zc)).toArray
def lentConds (cs : List CondD) : Array Value := (cs.flatMap CondD.vals ++ (ic ++ ic)).toArray
theorem cvals_len (c : CondD) : c.vals.length = 5 := rfl

theorem conds1_at (cs : List CondD) : (conds1 cs)[cs.length * 5 + 1]? = some (.int .i64 0) := by
  unfold conds1
  rw [List.getElem?_toArray, flat_tail _ 5 cvals_len]
  rfl
theorem conds2_at (cs : List CondD) : (conds2 cs)[(cs.length + 1) * 5 + 1]? = some (.int .i64 0) := by
  unfold conds2
  rw [List.getElem?_toArray, show (cs.length + 1) * 5 + 1 = cs.length * 5 + 6 by omega, flat_tail _ 5 cvals_len]
  rfl
theorem conds1_set (cs : List CondD) : (conds1 cs).setIfInBounds (cs.length * 5 + 1) (.int .i64 77777) = conds2 cs := by
  unfold conds1 conds2
  rw [List.setIfInBounds_toArray, flat_set _ 5 cvals_len]
  rfl
theorem conds2_set (cs : List CondD) : (conds2 cs).setIfInBounds ((cs.length + 1) * 5 + 1) (.int .i64 77777) = lentConds cs := by
  unfold conds2 lentConds
  rw [List.setIfInBounds_toArray, show (cs.length + 1) * 5 + 1 = cs.length * 5 + 6 by omega, flat_set _ 5 cvals_len]
  rfl
theorem setCell_conds1 (w : World) (cs : List CondD) (t : TypeId) : (w.alloc (.cells (conds1 cs) t)).setCell ⟨w.heap.size, cs.length * 5 + 1, none⟩ (.int .i64 77777) = w.alloc (.cells (conds2 cs) t) := by rw [setCell_alloc, conds1_set]
theorem setCell_conds2 (w : World) (cs : List CondD) (t : TypeId) : (w.alloc (.cells (conds2 cs) t)).setCell ⟨w.heap.size, (cs.length + 1) * 5 + 1, none⟩ (.int .i64 77777) = w.alloc (.cells (lentConds cs) t) := by rw [setCell_alloc, conds2_set]

def tabVals (t : TableD) : List Value := [.int .i64 t.cols, .int .i64 t.rows, .int .i64 t.k0, .int .i64 t.k1, .int .i64 t.k2, .int .i64 t.k3]
def zt : List Value := [.int .i64 0, .int .i64 0, .int .i64 0, .int .i64 0, .int .i64 0, .int .i64 0]
def it : List Value := [.int .i64 77777, .int .i64 0, .int .i64 0, .int .i64 0, .int .i64 0, .int .i64 0]
def tabs1 (ts : List TableD) : Array Value := (ts.flatMap tabVals ++ (zt ++ zt)).toArray
def tabs2 (ts : List TableD) : Array Value := (ts.flatMap tabVals ++ (it ++ zt)).toArray
def lentTabs (ts : List TableD) : Array Value := (ts.flatMap tabVals ++ (it ++ it)).toArray
theorem tvals_len (t : TableD) : (tabVals t).length = 6 := rfl

theorem tabs1_at (ts : List TableD) : (tabs1 ts)[ts.length * 6]? = some (.int .i64 0) := by
  unfold tabs1
  rw [List.getElem?_toArray, show ts.length * 6 = ts.length * 6 + 0 by omega, flat_tail _ 6 tvals_len]
  rfl
theorem tabs2_at (ts : List TableD) : (tabs2 ts)[(ts.length + 1) * 6]? = some (.int .i64 0) := by
  unfold tabs2
  rw [List.getElem?_toArray, show (ts.length + 1) * 6 = ts.length * 6 + 6 by omega, flat_tail _ 6 tvals_len]
  rfl
theorem tabs1_set (ts : List TableD) : (tabs1 ts).setIfInBounds (ts.length * 6) (.int .i64 77777) = tabs2 ts := by
  unfold tabs1 tabs2
  rw [List.setIfInBounds_toArray, show ts.length * 6 = ts.length * 6 + 0 by omega, flat_set _ 6 tvals_len]
  rfl
theorem tabs2_set (ts : List TableD) : (tabs2 ts).setIfInBounds ((ts.length + 1) * 6) (.int .i64 77777) = lentTabs ts := by
  unfold tabs2 lentTabs
  rw [List.setIfInBounds_toArray, show (ts.length + 1) * 6 = ts.length * 6 + 6 by omega, flat_set _ 6 tvals_len]
  rfl

/-- A copy of n elements, of s cells each, into a new row of n + 2. -/
theorem run_copy_new {P : Program} (w : World) (dT elem : TypeId) (s : Nat) (z : Array Value) (ao : Option Addr) (n cap : Nat) (cs : List Value) (hs0 : 0 < s) (hz : z.size = s) (hn : cs.length = n * s)
    (hc : ∀ j, j < n * s → ∃ b off, ao = some ⟨b, off, none⟩ ∧ w.cell? ⟨b, off + j, none⟩ = cs[j]?) (h1 : ∀ v ∈ cs, v.oneCell' = true)
    (hu : P.underlying dT = some (.slice elem)) (hs : (P.info? elem).map (·.size) = some s) (ty : TypeId) :
    (Builtin.copy_ #[dT, dT] ty #[.slice (some ⟨w.heap.size, 0, none⟩) (n + 2) (n + 2), .slice ao n cap]).run P (w.alloc (.cells (madeCells z ((n + 2) * s)) elem)) =
      .ok (goInt n) (w.alloc (.cells (cs ++ (z.toList ++ z.toList)).toArray elem)) := by
  have hsz : (madeCells z ((n + 2) * s)).size = (n + 2) * s := size_madeCells z _
  rw [run_copy_wide (w.alloc (.cells (madeCells z ((n + 2) * s)) elem)) dT dT ty elem s w.heap.size (n + 2) (n + 2) ao n cap (madeCells z ((n + 2) * s)) elem cs hu hs
    (heap_alloc_new _ _) (by omega) hn ?_ (by rw [hsz, hn, Nat.add_mul]; omega) h1, setRow_alloc, hn, made_drop z s n hz hs0]
  intro h0
  obtain ⟨b, off, rfl, _⟩ := hc 0 (by omega)
  refine ⟨⟨b, off, none⟩, rfl, fun j v hj => ?_⟩
  have hjl : j < n * s := by
    have := (List.getElem?_eq_some_iff.1 hj).1
    omega
  obtain ⟨b', off', e, hcell⟩ := hc j hjl
  cases e
  rw [addr_add]
  exact cell_alloc (hcell.trans hj) _

end Go.Scout

namespace Go.Scout
open Go.RowKit

theorem conds_src {w : World} {ao : Option Addr} {cs : List CondD} (h : CondsAt w ao cs) : ∀ j, j < cs.length * 5 → ∃ b off, ao = some ⟨b, off, none⟩ ∧ w.cell? ⟨b, off + j, none⟩ = (cs.flatMap CondD.vals)[j]? := by
  intro j hj
  obtain ⟨b, off, e, c0, c1, c2, c3, c4⟩ := h.2 (j / 5) (by omega)
  refine ⟨b, off, e, ?_⟩
  have hf := flat_at CondD.vals 5 cvals_len cz cs [] (j / 5) (j % 5) (by omega) (by omega)
  rw [List.append_nil, show j / 5 * 5 + j % 5 = j by omega] at hf
  rw [hf]
  generalize hd : cs.getD (j / 5) cz = d at *
  have hm : j % 5 < 5 := Nat.mod_lt _ (by omega)
  rcases (by omega : j % 5 = 0 ∨ j % 5 = 1 ∨ j % 5 = 2 ∨ j % 5 = 3 ∨ j % 5 = 4) with h5 | h5 | h5 | h5 | h5
  · rw [show off + j = off + j / 5 * 5 by omega, c0, h5]; rfl
  · rw [show off + j = off + j / 5 * 5 + 1 by omega, c1, h5]; rfl
  · rw [show off + j = off + j / 5 * 5 + 2 by omega, c2, h5]; rfl
  · rw [show off + j = off + j / 5 * 5 + 3 by omega, c3, h5]; rfl
  · rw [show off + j = off + j / 5 * 5 + 4 by omega, c4, h5]; rfl

theorem conds_one (cs : List CondD) : ∀ v ∈ cs.flatMap CondD.vals, v.oneCell' = true := by
  intro v hv
  rw [List.mem_flatMap] at hv
  obtain ⟨c, _, hc⟩ := hv
  simp only [CondD.vals, List.mem_cons, List.mem_nil_iff, or_false] at hc
  rcases hc with rfl | rfl | rfl | rfl | rfl <;> rfl

theorem tabs_src {w : World} {ao : Option Addr} {ts : List TableD} (h : TablesAt w ao ts) : ∀ j, j < ts.length * 6 → ∃ b off, ao = some ⟨b, off, none⟩ ∧ w.cell? ⟨b, off + j, none⟩ = (ts.flatMap tabVals)[j]? := by
  intro j hj
  obtain ⟨b, off, e, c0, c1, c2, c3, c4, c5⟩ := h.2 (j / 6) (by omega)
  refine ⟨b, off, e, ?_⟩
  have hf := flat_at tabVals 6 tvals_len tz ts [] (j / 6) (j % 6) (by omega) (by omega)
  rw [List.append_nil, show j / 6 * 6 + j % 6 = j by omega] at hf
  rw [hf]
  generalize hd : ts.getD (j / 6) tz = d at *
  have hm : j % 6 < 6 := Nat.mod_lt _ (by omega)
  rcases (by omega : j % 6 = 0 ∨ j % 6 = 1 ∨ j % 6 = 2 ∨ j % 6 = 3 ∨ j % 6 = 4 ∨ j % 6 = 5) with h5 | h5 | h5 | h5 | h5 | h5
  · rw [show off + j = off + j / 6 * 6 by omega, c0, h5]; rfl
  · rw [show off + j = off + j / 6 * 6 + 1 by omega, c1, h5]; rfl
  · rw [show off + j = off + j / 6 * 6 + 2 by omega, c2, h5]; rfl
  · rw [show off + j = off + j / 6 * 6 + 3 by omega, c3, h5]; rfl
  · rw [show off + j = off + j / 6 * 6 + 4 by omega, c4, h5]; rfl
  · rw [show off + j = off + j / 6 * 6 + 5 by omega, c5, h5]; rfl

theorem tabs_one (ts : List TableD) : ∀ v ∈ ts.flatMap tabVals, v.oneCell' = true := by
  intro v hv
  rw [List.mem_flatMap] at hv
  obtain ⟨c, _, hc⟩ := hv
  simp only [tabVals, List.mem_cons, List.mem_nil_iff, or_false] at hc
  rcases hc with rfl | rfl | rfl | rfl | rfl | rfl <;> rfl

/-- The block of a struct Given: its sixteen cells. -/
def GB (w : World) (G : Nat) (t : TypeId) (c : Array Value) : Prop := w.heap[G]? = some (.cells c t (0, 0))

theorem GB.cell {w : World} {G : Nat} {t : TypeId} {c : Array Value} (h : GB w G t c) (i : Nat) : w.cell? ⟨G, i, none⟩ = c[i]? := by
  unfold GB at h
  simp [World.cell?, h]
theorem GB.frozen {w : World} {G : Nat} {t : TypeId} {c : Array Value} (h : GB w G t c) (i : Nat) : w.frozen? ⟨G, i, none⟩ = false := by
  unfold GB at h
  simp [World.frozen?, h]
theorem GB.lt {w : World} {G : Nat} {t : TypeId} {c : Array Value} (h : GB w G t c) : G < w.heap.size := by
  unfold GB at h
  exact (Array.getElem?_eq_some_iff.1 h).1
theorem GB.set {w : World} {G : Nat} {t : TypeId} {c : Array Value} (h : GB w G t c) (i : Nat) (v : Value) : GB (w.setCell ⟨G, i, none⟩ v) G t (c.setIfInBounds i v) := by
  unfold GB at *
  rw [setCell_eq_setRow w G i c t (0, 0) v h]
  exact setRow_heap w G c _ t _ h
theorem GB.of {w w' : World} {G : Nat} {t : TypeId} {c : Array Value} (h : GB w G t c) (e : w'.heap[G]? = w.heap[G]?) : GB w' G t c := by
  unfold GB at *
  rw [e]
  exact h
theorem heap_setCell {w : World} {a : Addr} {v : Value} {k : Nat} (h : k ≠ a.block) : (w.setCell a v).heap[k]? = w.heap[k]? := Below.heap_setCell _ _ _ _ h
theorem heap_alloc {w : World} {o : Obj} {k : Nat} (h : k < w.heap.size) : (w.alloc o).heap[k]? = w.heap[k]? := Below.heap_alloc _ _ _ h

/-- How the loop of 'clauses' stands when k clauses are lent. -/
structure CState (w00 w0 wr : World) (G tG tC tA tS n : Nat) (gc : Value → Value → Array Value) (ls : List ClauseV) (k : Nat) (v : Value) (A : Nat → Nat) : Prop where
  bel : Below w00.heap.size w00 wr
  oth : ∀ j, j < w0.heap.size → j ≠ G → wr.heap[j]? = w0.heap[j]?
  siz : w0.heap.size < wr.heap.size
  g : GB wr G tG (gc (.slice (some ⟨w0.heap.size, 0, none⟩) (n + 2) (n + 2)) v)
  row : wr.rowIs w0.heap.size tC (n + 2) (fun i => if i < k then .slice (some ⟨A i, 0, none⟩) (ls.getD i lz).cs.length ((ls.getD i lz).cs.length + 2) else .slice none 0 0)
  al : ∀ i, i < k → w0.heap.size < A i ∧ GB wr (A i) tS (lentConds (ls.getD i lz).cs)
  own : wr.ownsRow w0.heap.size tA 1 v k ((List.range k).map fun i => .slice (some ⟨A i, 0, none⟩) ((ls.getD i lz).cs.length + 2) ((ls.getD i lz).cs.length + 2))

/-- What is known behind the append of a round. -/
structure CMid (w00 w0 wr w1 : World) (G tG tC tS n : Nat) (gc : Value → Value → Array Value) (ls : List ClauseV) (k : Nat) (v v' : Value) (A : Nat → Nat) (cs : List CondD) : Prop where
  bel : Below w00.heap.size w00 w1
  oth : ∀ j, j < w0.heap.size → j ≠ G → w1.heap[j]? = w0.heap[j]?
  siz : w0.heap.size < w1.heap.size
  siz' : w0.heap.size < wr.heap.size
  g : GB w1 G tG (gc (.slice (some ⟨w0.heap.size, 0, none⟩) (n + 2) (n + 2)) v)
  row : w1.rowIs w0.heap.size tC (n + 2) (fun i => if i < k then .slice (some ⟨A i, 0, none⟩) (ls.getD i lz).cs.length ((ls.getD i lz).cs.length + 2) else .slice none 0 0)
  al : ∀ i, i < k → w0.heap.size < A i ∧ GB w1 (A i) tS (lentConds (ls.getD i lz).cs)
  new : GB w1 wr.heap.size tS (lentConds cs)
  sh : ∃ g cap, v' = .slice (some ⟨g, 0, none⟩) (k + 1) cap

theorem CState.mid {w00 w0 wr w1 : World} {G tG tC tA tS n : Nat} {gc : Value → Value → Array Value} {ls : List ClauseV} {k : Nat} {v v' : Value} {A : Nat → Nat} {cs : List CondD} {Y : Obj} {xs : List Value}
    (h : CState w00 w0 wr G tG tC tA tS n gc ls k v A) (hAC : tA ≠ tC) (hAS : tA ≠ tS) (hG : G < w0.heap.size) (hGo : w00.heap.size ≤ G)
    (hown : w1.ownsRow w0.heap.size tA 1 v' (k + 1) xs) (_hx : xs.length = k + 1) (hgr : ((wr.alloc (.cells (lentConds cs) tS)).alloc Y).grownBy w1 v.ownBlock) :
    CMid w00 w0 wr w1 G tG tC tS n gc ls k v v' A cs := by
  have hlt := h.own.lt
  have hsz := h.siz
  have hblk : ∀ j, j < wr.heap.size → some j ≠ v.ownBlock → w1.heap[j]? = wr.heap[j]? := fun j hj hne => by
    rw [hgr.block j (by simp; omega) hne, heap_alloc (by simp; omega), heap_alloc hj]
  have hty : ∀ j c t, wr.heap[j]? = some (.cells c t (0, 0)) → t ≠ tA → some j ≠ v.ownBlock := fun j c t hj ht he => by
    rcases h.own.2 with ⟨rfl, _⟩ | ⟨g, cap, cur, rfl, _, hh, _⟩
    · simp [Value.ownBlock] at he
    · simp [Value.ownBlock] at he
      subst he
      rw [hh] at hj
      simp at hj
      exact ht hj.2.symm
  have hlow : ∀ j, j < w0.heap.size → some j ≠ v.ownBlock := fun j hj he => by
    have := hlt j he.symm
    omega
  refine ⟨?_, fun j hj hne => ?_, ?_, hsz, ?_, ?_, fun i hi => ⟨(h.al i hi).1, ?_⟩, ?_, ?_⟩
  · have b1 := (h.bel.alloc h.bel.size (.cells (lentConds cs) tS))
    have b2 := b1.alloc b1.size Y
    exact b2.grown hgr (by have := h.bel.size; simp; omega) (fun j hj => by have := hlt j hj; omega)
  · rw [hblk j (by omega) (hlow j hj)]
    exact h.oth j hj hne
  · have := hgr.size
    simp at this
    omega
  · exact h.g.of (hblk G (by omega) (hlow G hG))
  · obtain ⟨c, hc, hs, hv⟩ := h.row
    exact ⟨c, (hblk _ hsz (hty _ _ _ hc (Ne.symm hAC))).trans hc, hs, hv⟩
  · have hA := (h.al i hi).2
    exact hA.of (hblk _ hA.lt (hty _ _ _ hA (Ne.symm hAS)))
  · show w1.heap[wr.heap.size]? = _
    rw [hgr.block wr.heap.size (by simp; omega) (fun he => by have := hlt _ he.symm; omega), heap_alloc (by simp), heap_alloc_new]
  · rcases hown.2 with ⟨_, hnil⟩ | ⟨g, cap, cur, hv, _⟩
    · omega
    · exact ⟨g, cap, hv⟩

theorem CMid.next {w00 w0 wr w1 : World} {G tG tC tA tS n : Nat} {gc : Value → Value → Array Value} {ls : List ClauseV} {k : Nat} {v v' : Value} {A : Nat → Nat} {cs : List CondD}
    (M : CMid w00 w0 wr w1 G tG tC tS n gc ls k v v' A cs) (hgc : ∀ x y y', (gc x y).setIfInBounds 12 y' = gc x y') (hG : G < w0.heap.size) (hGo : w00.heap.size ≤ G) (hcs : (ls.getD k lz).cs = cs)
    (hAC : tA ≠ tC) (_hAS : tA ≠ tS) (_hAG : tA ≠ tG)
    (hown : w1.ownsRow w0.heap.size tA 1 v' (k + 1) (((List.range k).map fun i => Value.slice (some ⟨A i, 0, none⟩) ((ls.getD i lz).cs.length + 2) ((ls.getD i lz).cs.length + 2)) ++ [Value.slice (some ⟨wr.heap.size, 0, none⟩) (cs.length + 2) (cs.length + 2)])) :
    CState w00 w0 ((w1.setCell ⟨G, 12, none⟩ v').setCell ⟨w0.heap.size, k, none⟩ (.slice (some ⟨wr.heap.size, 0, none⟩) cs.length (cs.length + 2))).drew G tG tC tA tS n gc ls (k + 1) v' (fun i => if i = k then wr.heap.size else A i) := by
  have hs' := M.siz'
  have hs1 := M.siz
  have hAne : ∀ i, i < k → A i ≠ wr.heap.size ∨ True := fun _ _ => .inr trivial
  have hblk : ∀ j, j ≠ G → j ≠ w0.heap.size → (((w1.setCell ⟨G, 12, none⟩ v').setCell ⟨w0.heap.size, k, none⟩ (.slice (some ⟨wr.heap.size, 0, none⟩) cs.length (cs.length + 2))).drew).heap[j]? = w1.heap[j]? := fun j h1 h2 => by
    show ((w1.setCell ⟨G, 12, none⟩ v').setCell ⟨w0.heap.size, k, none⟩ _).heap[j]? = _
    rw [heap_setCell h2, heap_setCell h1]
  refine ⟨?_, fun j hj hne => ?_, ?_, ?_, ?_, fun i hi => ?_, ?_⟩
  · have hb0 := M.bel.size
    exact ((M.bel.setCell (p := ⟨G, 12, none⟩) hGo v').setCell (p := ⟨w0.heap.size, k, none⟩) (by show w00.heap.size ≤ w0.heap.size; omega) _).drew
  · rw [hblk j hne (by omega)]
    exact M.oth j hj hne
  · simpa using hs1
  · have h1 := M.g.set 12 v'
    rw [hgc] at h1
    exact h1.of (by show ((w1.setCell ⟨G, 12, none⟩ v').setCell ⟨w0.heap.size, k, none⟩ _).heap[G]? = _; rw [heap_setCell (by show G ≠ w0.heap.size; omega)])
  · have h1 := (M.row.setOther (a := ⟨G, 12, none⟩) (by show w0.heap.size ≠ G; omega) v').set k (.slice (some ⟨wr.heap.size, 0, none⟩) cs.length (cs.length + 2))
    refine (h1.drew).congr fun i hi => ?_
    by_cases hik : i = k
    · subst hik
      simp only [if_true, show i < i + 1 by omega]
      rw [hcs]
    · simp only [hik, if_false]
      by_cases h2 : i < k
      · rw [if_pos h2, if_pos (by omega)]
      · rw [if_neg h2, if_neg (by omega)]
  · by_cases hik : i = k
    · subst hik
      simp only [if_true]
      refine ⟨hs', ?_⟩
      rw [hcs]
      exact M.new.of (hblk _ (by omega) (by omega))
    · simp only [hik, if_false]
      have hA := M.al i (by omega)
      exact ⟨hA.1, hA.2.of (hblk _ (by omega) (by omega))⟩
  · have e : ((List.range (k + 1)).map fun i => Value.slice (some ⟨(fun i => if i = k then wr.heap.size else A i) i, 0, none⟩) ((ls.getD i lz).cs.length + 2) ((ls.getD i lz).cs.length + 2)) =
        (((List.range k).map fun i => Value.slice (some ⟨A i, 0, none⟩) ((ls.getD i lz).cs.length + 2) ((ls.getD i lz).cs.length + 2)) ++ [Value.slice (some ⟨wr.heap.size, 0, none⟩) (cs.length + 2) (cs.length + 2)]) := by
      rw [List.range_succ, List.map_append]
      congr 1
      · apply List.map_congr_left
        intro i hi
        have : i < k := List.mem_range.1 hi
        have hne : ¬ i = k := by omega
        simp [hne]
      · simp [← hcs]
    rw [e]
    have n1 : v'.ownBlock ≠ some G := fun he => by have := hown.lt _ he; omega
    have n2 : v'.ownBlock ≠ some w0.heap.size := fun he => by
      obtain ⟨c, hc, _⟩ := M.row
      rcases hown.2 with ⟨rfl, _⟩ | ⟨g, cap, cur, rfl, _, hh, _⟩
      · simp [Value.ownBlock] at he
      · simp [Value.ownBlock] at he
        subst he
        rw [hh] at hc
        simp at hc
        exact hAC hc.2
    exact (ownsRow_setCell_other (ownsRow_setCell_other hown n1 v') n2 _).drew

end Go.Scout

namespace Go.Scout
open Go.RowKit

theorem Kept.drewN {s : Nat → Prop} (W : World) (n : Nat) : Kept s W (W.drewN n) := Kept.of_below (below_drewN (Below.refl W.heap.size W) n) (fun _ hb _ => hb)
theorem GB.alloc (w : World) (c : Array Value) (t : TypeId) : GB (w.alloc (.cells c t)) w.heap.size t c := heap_alloc_new w _
theorem GB.keep {w w' : World} {G : Nat} {t : TypeId} {c : Array Value} {s : Nat → Prop} (h : GB w G t c) (hk : Kept s w w') (hs : s G) : GB w' G t c := h.of (hk.block G h.lt hs)
theorem Kept.set_new {s : Nat → Prop} {A B : World} (h : Kept s A B) {G i : Nat} (hG : A.heap.size ≤ G) (v : Value) : Kept s A (B.setCell ⟨G, i, none⟩ v) :=
  ⟨h.os, h.tape, h.output, by have := h.size; simp [World.setCell]; omega, fun k hk hs => (Below.heap_setCell B _ _ k (by show k ≠ G; omega)).trans (h.block k hk hs)⟩

end Go.Scout

