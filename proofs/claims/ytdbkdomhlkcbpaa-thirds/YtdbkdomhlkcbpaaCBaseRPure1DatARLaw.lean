import Derived.Test.YtdbkdomhlkcbpaaProg
import Derived.RangeFuncRecord
import Derived.RangeFuncBound
import Derived.RangeFuncCalls
import Derived.RangeFuncLeaves
import Derived.Below
import Derived.Test.YtdbkdomhlkcbpaaCBaseBase2Base3Base4
import Derived.Test.YtdbkdomhlkcbpaaCProgFProgGProgHPure0
set_option linter.all false
namespace Go.Scout
open Go.RowKit

def iz : IntsV := ⟨none, 0, []⟩

/-- A list of rows: one cell each, which holds the slice of its numbers. -/
def RowsAt (w : World) (ao : Option Addr) (rs : List IntsV) : Prop :=
  rs.length ≤ 1152921504606846976 ∧ CellsAt w ao rs.length (fun i => (rs.getD i iz).val) ∧ ∀ i, i < rs.length → (rs.getD i iz).At w

theorem RowsAt.below {w w' : World} (hb : Below w.heap.size w w') {ao : Option Addr} {rs : List IntsV} (h : RowsAt w ao rs) : RowsAt w' ao rs :=
  ⟨h.1, h.2.1.below hb, fun i hi => IntsAt.below hb (h.2.2 i hi)⟩

/-- A table of a database: a slice of rows. -/
structure RowsV where
  ad : Option Addr
  cap : Nat
  rs : List IntsV

def rz : RowsV := ⟨none, 0, []⟩
def RowsV.val (v : RowsV) : Value := .slice v.ad v.rs.length v.cap
def RowsV.At (v : RowsV) (w : World) : Prop := RowsAt w v.ad v.rs

/-- A database: one cell a table, which holds the slice of its rows. -/
def DbAt (w : World) (ao : Option Addr) (db : List RowsV) : Prop :=
  db.length ≤ 1152921504606846976 ∧ CellsAt w ao db.length (fun i => (db.getD i rz).val) ∧ ∀ i, i < db.length → (db.getD i rz).At w

theorem DbAt.below {w w' : World} (hb : Below w.heap.size w w') {ao : Option Addr} {db : List RowsV} (h : DbAt w ao db) : DbAt w' ao db :=
  ⟨h.1, h.2.1.below hb, fun i hi => RowsAt.below hb (h.2.2 i hi)⟩

end Go.Scout

namespace Go.Scout
open Go.RowKit

def valB (v : Int) : Bool := decide (v = 1073741824) || (decide (-1000 ≤ v) && decide (v ≤ 1000))
def rowB (xs : List Int) (n : Int) : Bool := decide ((xs.length : Int) = n) && xs.all valB
def fitB (rs : List IntsV) (n : Int) : Bool := rs.all fun r => rowB r.xs n
def tabB (d : RowsV) (t : TableD) : Bool := decide (d.rs.length ≤ 50) && fitB d.rs t.cols
def dbB (ts : List TableD) (db : List RowsV) : Bool := (List.range db.length).all fun i => tabB (db.getD i rz) (ts.getD i tz)
def prodN (src : List Int) (db : List RowsV) : Nat := src.foldl (fun n t => n * max 1 (db.getD t.toNat rz).rs.length) 1
def dataB (ts : List TableD) (src : List Int) (db : List RowsV) : Bool := decide (db.length = ts.length) && dbB ts db && decide (prodN src db ≤ 20000)

theorem allG_bad {α : Type} {p : α → Bool} {l : List α} {d : α} {k : Nat} (hk : k < l.length) (h : p (l.getD k d) = false) : l.all p = false := by
  rw [List.all_eq_false]
  have e : l.getD k d = l[k] := by simp [List.getD, hk]
  rw [e] at h
  exact ⟨l[k], List.getElem_mem hk, by rw [h]; simp⟩
theorem allG_step {α : Type} {p : α → Bool} {l : List α} {d : α} {k : Nat} (hk : k < l.length) (hp : (l.take k).all p = true) (h : p (l.getD k d) = true) : (l.take (k + 1)).all p = true := by
  have e : l.getD k d = l[k] := by simp [List.getD, hk]
  rw [e] at h
  rw [List.take_succ_eq_append_getElem hk, List.all_append, hp, List.all_cons, List.all_nil, h]
  rfl
theorem allG_at {α : Type} {p : α → Bool} {l : List α} {d : α} {k : Nat} (hk : k < l.length) (h : l.all p = true) : p (l.getD k d) = true := by
  rw [List.all_eq_true] at h
  have e : l.getD k d = l[k] := by simp [List.getD, hk]
  rw [e]
  exact h _ (List.getElem_mem hk)

theorem rowB_at {xs : List Int} {n : Int} (h : rowB xs n = true) : (xs.length : Int) = n ∧ xs.all valB = true := by
  unfold rowB at h
  simp only [Bool.and_eq_true, decide_eq_true_eq] at h
  exact h

theorem range_all_bad {p : Nat → Bool} {n k : Nat} (hk : k < n) (h : p k = false) : (List.range n).all p = false := by
  rw [List.all_eq_false]
  exact ⟨k, by simpa using hk, by rw [h]; simp⟩
theorem range_all_step {p : Nat → Bool} {k : Nat} (hp : (List.range k).all p = true) (h : p k = true) : (List.range (k + 1)).all p = true := by
  rw [List.range_succ, List.all_append, hp, List.all_cons, List.all_nil, h]
  rfl

theorem prodN_succ {src : List Int} {db : List RowsV} {k : Nat} (hk : k < src.length) : prodN (src.take (k + 1)) db = prodN (src.take k) db * max 1 (db.getD src[k].toNat rz).rs.length := by
  unfold prodN
  rw [List.take_succ_eq_append_getElem hk, List.foldl_append]
  rfl
theorem dbB_len {ts : List TableD} {db : List RowsV} (h : dbB ts db = true) (i : Nat) : (db.getD i rz).rs.length ≤ 50 := by
  by_cases hi : i < db.length
  · unfold dbB at h
    rw [List.all_eq_true] at h
    have := h i (by simpa using hi)
    unfold tabB at this
    simp only [Bool.and_eq_true, decide_eq_true_eq] at this
    exact this.1
  · have : db.getD i rz = rz := by simp [List.getD, hi]
    rw [this]
    decide
theorem prodN_le {src : List Int} {ts : List TableD} {db : List RowsV} (h : dbB ts db = true) : prodN src db ≤ 50 ^ src.length := by
  unfold prodN
  have hg : ∀ (l : List Int) (n : Nat), l.foldl (fun n t => n * max 1 (db.getD t.toNat rz).rs.length) n ≤ n * 50 ^ l.length := by
    intro l
    induction l with
    | nil => intro n; simp
    | cons a l ih =>
      intro n
      refine Nat.le_trans (ih _) ?_
      have h1 := dbB_len h a.toNat
      have h2 : max 1 (db.getD a.toNat rz).rs.length ≤ 50 := by omega
      rw [List.length_cons, Nat.pow_succ, Nat.mul_comm (50 ^ l.length) 50, ← Nat.mul_assoc]
      exact Nat.mul_le_mul_right _ (Nat.mul_le_mul_left _ h2)
  have := hg src 1
  omega
theorem prodN_small {src : List Int} {ts : List TableD} {db : List RowsV} (h : dbB ts db = true) (hs : src.length ≤ 5) : prodN src db ≤ 312500000 := by
  have h1 := prodN_le (src := src) h
  have h2 : (50 : Nat) ^ src.length ≤ 50 ^ 5 := Nat.pow_le_pow_right (by decide) hs
  have h3 : (50 : Nat) ^ 5 = 312500000 := by decide
  omega
theorem prodN_take_le {src : List Int} {ts : List TableD} {db : List RowsV} (h : dbB ts db = true) (hs : src.length ≤ 5) (k : Nat) : prodN (src.take k) db ≤ 312500000 :=
  prodN_small h (by rw [List.length_take]; omega)

end Go.Scout

namespace Go.Proofs.Ytdbkdomhlkcbpaa
open Go.RowKit Go.Scout

set_option maxRecDepth 20000 in
set_option maxHeartbeats 8000000 in
theorem rowsFit_any (v : RowsV) (n : Int) (w : World) (hr : v.At w) :
    Calls Try.prog 68 #[v.val, .int .i64 n] w fun e w' => e = .returned (.bool (fitB v.rs n)) ∧ w' = w := by
  obtain ⟨ad, cap, rs⟩ := v
  unfold RowsV.val
  simp only
  have hl := hr.1
  simp only at hl
  have HR : Hid _ := hr
  clear hr
  go_enter Try.func68, Try.ntmps68
  go_wp2
  go_loopw [11] (fun i wr => ∃ k : Nat, k ≤ rs.length ∧ i = .int .i64 k ∧ Hid (fitB (rs.take k) n = true) ∧ w = wr) (fun i _ => rs.length - (intOf i).toNat)
  case atStart => exact ⟨0, Nat.zero_le _, rfl, rfl, rfl⟩
  case round =>
    obtain ⟨k, hk, rfl, HP, rfl⟩ := hrel
    by_cases hlt : k < rs.length
    · obtain ⟨b, off, rfl, hcs⟩ := HR.out.2.1.get hlt
      have hck := hcs k hlt
      have hat := HR.out.2.2 k hlt
      have HBD : Hid (rowB (rs.getD k iz).xs n = false → false = fitB rs n) := fun h => (allG_bad (p := fun r : IntsV => rowB r.xs n) hlt h).symm
      have HGD : Hid (rowB (rs.getD k iz).xs n = true → fitB (rs.take (k + 1)) n = true) := fun h => allG_step (p := fun r : IntsV => rowB r.xs n) hlt HP.out h
      generalize rs.getD k iz = x at *
      obtain ⟨xad, xcap, xs⟩ := x
      simp only at *
      have hck' : w.cell? ⟨b, off + k, none⟩ = some (.slice xad xs.length xcap) := hck
      have hxl := hat.1
      simp only at hxl
      have HX : Hid _ := hat
      clear hck hcs hat
      by_cases hn : (xs.length : Int) = n
      · have hne : ((xs.length : Int) != n) = false := by simpa using hn
        go_wp2
        go_loopw [21] (fun i wr => ∃ m : Nat, m ≤ xs.length ∧ i = .int .i64 m ∧ Hid ((xs.take m).all valB = true) ∧ w = wr) (fun i _ => xs.length - (intOf i).toNat)
        case atStart => exact ⟨0, Nat.zero_le _, rfl, rfl, rfl⟩
        case round =>
          obtain ⟨m, hm, rfl, HV, rfl⟩ := hrel
          by_cases hml : m < xs.length
          · obtain ⟨xb, xoff, rfl, hxc⟩ := HX.out.get hml
            have hxm := hxc m hml
            have HVB : Hid (valB (xs.getD m 0) = false → xs.all valB = false) := fun h => allG_bad hml h
            have HVG : Hid (valB (xs.getD m 0) = true → (xs.take (m + 1)).all valB = true) := fun h => allG_step hml HV.out h
            generalize xs.getD m 0 = y at *
            clear hxc
            by_cases y0 : y = 1073741824
            · have f0 : (y != 1073741824) = false := by simpa using y0
              have HY : Hid (valB y = true) := show _ = _ by simp [valB, y0]
              clear y0
              go_wp2
              go_roundw
              case rel => exact ⟨m + 1, by omega, by go_num, HVG.out HY.out, trivial⟩
              case measure => simp [intOf]; omega
            · have f0 : (y != 1073741824) = true := by simpa using y0
              by_cases y1 : -1000 ≤ y
              · by_cases y2 : y ≤ 1000
                · have HY : Hid (valB y = true) := show _ = _ by simp [valB, y1, y2]
                  clear y0
                  go_wp2
                  go_roundw
                  case rel => exact ⟨m + 1, by omega, by go_num, HVG.out HY.out, trivial⟩
                  case measure => simp [intOf]; omega
                · have HY : Hid (false = fitB rs n) := HBD.out (by unfold rowB; rw [HVB.out (by simp [valB, y0, y2])]; simp)
                  clear y0
                  go_wp2
                  go_ret
                  exact ⟨ret_bool HY.out, rfl⟩
              · have HY : Hid (false = fitB rs n) := HBD.out (by unfold rowB; rw [HVB.out (by simp [valB, y0, y1])]; simp)
                clear y0
                go_wp2
                go_ret
                exact ⟨ret_bool HY.out, rfl⟩
          · have hmm : m = xs.length := by omega
            subst hmm
            rw [List.take_length] at HV
            have HG2 : Hid _ := HGD.out (by unfold rowB; rw [HV.out]; simp [hn])
            go_wp2
            go_roundw
            case rel => exact ⟨k + 1, by omega, by go_num, HG2.out, trivial⟩
            case measure => simp [intOf]; omega
      · have hne : ((xs.length : Int) != n) = true := by simpa using hn
        have HY : Hid (false = fitB rs n) := HBD.out (by unfold rowB; simp [hn])
        go_wp2
        go_ret
        exact ⟨ret_bool HY.out, rfl⟩
    · have hkk : k = rs.length := by omega
      subst hkk
      rw [List.take_length] at HP
      have HPP : Hid (true = fitB rs n) := HP.out.symm
      clear HP
      go_wp2
      go_ret
      exact ⟨ret_bool HPP.out, rfl⟩

set_option maxRecDepth 20000 in
set_option maxHeartbeats 8000000 in
theorem isDatabase_any (co : Option Addr) (cc : Nat) (ts : List TableD) (d : Option Addr) (dcap : Nat) (db : List RowsV) (w : World) (hts : TablesAt w co ts) (hdb : DbAt w d db) :
    Calls Try.prog 49 #[.slice co ts.length cc, .slice d db.length dcap] w fun e w' => e = .returned (.bool (decide (db.length = ts.length) && dbB ts db)) ∧ w' = w := by
  have hl1 := hts.1
  have hl2 := hdb.1
  have HT : Hid _ := hts
  have HD : Hid _ := hdb
  clear hts hdb
  by_cases hn : db.length = ts.length
  · have hne : ((db.length : Int) != (ts.length : Int)) = false := by rw [hn]; simp
    have hR : (decide (db.length = ts.length) && dbB ts db) = dbB ts db := by simp [hn]
    rw [hR]
    have HN : Hid _ := hn
    clear hR hn
    go_enter Try.func49, Try.ntmps49
    go_wp2
    go_loopw [14] (fun i wr => ∃ k : Nat, k ≤ db.length ∧ i = .int .i64 k ∧ Hid ((List.range k).all (fun i => tabB (db.getD i rz) (ts.getD i tz)) = true) ∧ w = wr) (fun i _ => db.length - (intOf i).toNat)
    case atStart => exact ⟨0, Nat.zero_le _, rfl, rfl, rfl⟩
    case round =>
      obtain ⟨k, hk, rfl, HP, rfl⟩ := hrel
      by_cases hlt : k < db.length
      · obtain ⟨b, off, rfl, hcs⟩ := HD.out.2.1.get hlt
        have hck := hcs k hlt
        have hat := HD.out.2.2 k hlt
        have hlt2 : k < ts.length := by have := HN.out; omega
        obtain ⟨tb, toff, rfl, t0, -, -, -, -, -⟩ := HT.out.2 k hlt2
        have HBD : Hid (tabB (db.getD k rz) (ts.getD k tz) = false → false = dbB ts db) := fun h => (range_all_bad (p := fun i => tabB (db.getD i rz) (ts.getD i tz)) hlt h).symm
        have HGD : Hid (tabB (db.getD k rz) (ts.getD k tz) = true → (List.range (k + 1)).all (fun i => tabB (db.getD i rz) (ts.getD i tz)) = true) := fun h => range_all_step (p := fun i => tabB (db.getD i rz) (ts.getD i tz)) HP.out h
        generalize db.getD k rz = x at *
        generalize (ts.getD k tz) = tt at *
        have hcon := rowsFit_any x tt.cols w hat
        obtain ⟨xad, xcap, xs⟩ := x
        obtain ⟨cols, trows, k0, k1, k2, k3⟩ := tt
        unfold RowsV.val at *
        simp only at *
        have hxl := hat.1
        simp only at hxl
        clear hcs hat
        by_cases h50 : 50 < xs.length
        · have HY : Hid (false = dbB ts db) := HBD.out (by unfold tabB; simp; omega)
          go_wp2
          go_ret
          exact ⟨ret_bool HY.out, rfl⟩
        · by_cases hf : fitB xs cols = true
          · have HY : Hid _ := HGD.out (by unfold tabB; simp [hf]; omega)
            rw [hf] at hcon
            clear hf
            go_wp2_with fail
            refine hcon.mono ?_
            rintro e w2 ⟨rfl, rfl⟩
            go_wp2
            go_roundw
            case rel => exact ⟨k + 1, by omega, by go_num, HY.out, trivial⟩
            case measure => simp [intOf]; omega
          · have hf' : fitB xs cols = false := by simpa using hf
            have HY : Hid (false = dbB ts db) := HBD.out (by unfold tabB; simp [hf'])
            rw [hf'] at hcon
            clear hf hf'
            go_wp2_with fail
            refine hcon.mono ?_
            rintro e w2 ⟨rfl, rfl⟩
            go_wp2
            go_ret
            exact ⟨ret_bool HY.out, rfl⟩
      · have hkk : k = db.length := by omega
        subst hkk
        have HPP : Hid (true = dbB ts db) := HP.out.symm
        clear HP
        go_wp2
        go_ret
        exact ⟨ret_bool HPP.out, rfl⟩
  · have hne : ((db.length : Int) != (ts.length : Int)) = true := by simp; omega
    have hR : (decide (db.length = ts.length) && dbB ts db) = false := by simp [hn]
    rw [hR]
    clear hR
    go_enter Try.func49, Try.ntmps49
    go_wp2
    go_ret
    exact ⟨rfl, rfl⟩

set_option maxRecDepth 20000 in
set_option maxHeartbeats 8000000 in
theorem count_any (s : IntsV) (d : Option Addr) (dcap : Nat) (db : List RowsV) (ts : List TableD) (w : World) (hs : s.At w) (hdb : DbAt w d db) (ha : allB s.xs db.length = true) (hl : s.xs.length ≤ 5) (hB : dbB ts db = true) :
    Calls Try.prog 50 #[s.val, .slice d db.length dcap] w fun e w' => e = .returned (.int .i64 (prodN s.xs db)) ∧ w' = w := by
  obtain ⟨sad, scap, src⟩ := s
  unfold IntsV.val
  simp only at *
  have hl2 := hdb.1
  have HS : Hid _ := hs
  have HD : Hid _ := hdb
  have HA : Hid _ := ha
  have HB : Hid _ := hB
  clear hs hdb ha hB
  go_enter Try.func50, Try.ntmps50
  go_wp2
  go_loopw [5, 10] (fun p i wr => ∃ k : Nat, k ≤ src.length ∧ i = .int .i64 k ∧ p = .int .i64 (prodN (src.take k) db) ∧ w = wr) (fun _ i _ => src.length - (intOf i).toNat)
  case atStart => exact ⟨0, Nat.zero_le _, rfl, rfl, rfl⟩
  case round =>
    obtain ⟨k, hk, rfl, rfl, rfl⟩ := hrel
    by_cases hlt : k < src.length
    · have hr := allB_at HA.out hlt
      obtain ⟨b1, o1, rfl, hc1⟩ := HS.out.get hlt
      have hck := hc1 k hlt
      have hj : src[k].toNat < db.length := by omega
      obtain ⟨b2, o2, rfl, hc2⟩ := HD.out.2.1.get hj
      have hcl := hc2 _ hj
      have hp1 := prodN_take_le HB.out hl k
      have hp2 := prodN_take_le HB.out hl (k + 1)
      have h50 := dbB_len HB.out src[k].toNat
      rw [prodN_succ hlt] at hp2
      have HPS : Hid _ := prodN_succ (db := db) hlt
      have e1 : src.getD k 0 = src[k] := by simp [List.getD, hlt]
      rw [e1] at hck
      generalize db.getD src[k].toNat rz = x at *
      generalize prodN (src.take k) db = p at *
      generalize hck0 : src[k] = ck at *
      clear e1 hc1 hc2 hck0
      obtain ⟨cn, rfl⟩ : ∃ cn : Nat, ck = (cn : Int) := ⟨ck.toNat, by omega⟩
      simp only [Int.toNat_natCast] at hj hcl
      obtain ⟨xad, xcap, xs⟩ := x
      unfold RowsV.val at *
      simp only at *
      have hmx : ((max 1 xs.length : Nat) : Int) = if (1 : Int) < (xs.length : Int) then (xs.length : Int) else 1 := by split <;> omega
      have hw : wrap64 ((p : Int) * (if (1 : Int) < (xs.length : Int) then (xs.length : Int) else 1)) = ((p * max 1 xs.length : Nat) : Int) := by
        rw [← hmx, ← Int.natCast_mul]
        unfold wrap64; omega
      have HWr : Hid _ := hw
      clear hw hmx
      go_wp2
      go_roundw
      case rel => exact ⟨k + 1, by omega, by go_num, by rw [HPS.out]; exact congrArg (Value.int .i64) HWr.out, trivial⟩
      case measure => simp [intOf]; omega
    · have hkk : k = src.length := by omega
      subst hkk
      rw [List.take_length]
      go_wp2
      go_ret
      exact ⟨rfl, rfl⟩

set_option maxRecDepth 20000 in
set_option maxHeartbeats 8000000 in
theorem checkData_any (co : Option Addr) (cc : Nat) (ts : List TableD) (q : QueryV) (d : Option Addr) (dcap : Nat) (db : List RowsV) (w : World) (hts : TablesAt w co ts) (hq : q.src.At w) (hdb : DbAt w d db) (ha : allB q.src.xs ts.length = true) (hl : q.src.xs.length ≤ 5) :
    Calls Try.prog 38 #[.slice co ts.length cc, .agg q.cells, .slice d db.length dcap] w fun e w' => e = .returned (.int .i64 (if dataB ts q.src.xs db then 0 else 4)) ∧ Below w.heap.size w w' := by
  have hb0 := below_alloc w (.cells q.cells 26)
  have hc1 := isDatabase_any co cc ts d dcap db _ (hts.below hb0) (hdb.below hb0)
  have hbb : Below w.heap.size w (w.alloc (.cells q.cells 26)) := hb0
  have hD : dataB ts q.src.xs db = ((decide (db.length = ts.length) && dbB ts db) && decide (prodN q.src.xs db ≤ 20000)) := rfl
  by_cases h1 : (decide (db.length = ts.length) && dbB ts db) = true
  · have h1' := h1
    simp only [Bool.and_eq_true, decide_eq_true_eq] at h1'
    have hc2 := count_any q.src d dcap db ts _ (IntsAt.below hb0 hq) (hdb.below hb0) (by rw [h1'.1]; exact ha) hl h1'.2
    rw [h1] at hc1 hD
    rw [hD]
    have hs : ((prodN q.src.xs db : Nat) : Int) > 20000 ∨ ¬ ((prodN q.src.xs db : Nat) : Int) > 20000 := by omega
    have HB : Hid _ := hbb
    have HN : Hid _ := h1'
    clear hD h1 h1' hb0 hbb hts hdb ha hl hq
    obtain ⟨⟨sad, scap, src⟩, wad, wcap, wh, group, keys, sums, sel, ord⟩ := q
    unfold QueryV.cells IntsV.val at *
    simp only at *
    generalize prodN src db = p at *
    have hx0 : (w.alloc (.cells #[.slice sad src.length scap, .slice wad wh.length wcap, .bool group, .slice keys.ad keys.xs.length keys.cap, .slice sums.ad sums.xs.length sums.cap, .slice sel.ad sel.xs.length sel.cap, .slice ord.ad ord.xs.length ord.cap] 26)).cell? ⟨w.heap.size, 0, none⟩ = some (.slice sad src.length scap) := by simp
    rcases hs with hs | hs
    · have hR : (if (true && decide (p ≤ 20000)) = true then (0 : Int) else 4) = 4 := by rw [if_neg]; simp; omega
      rw [hR]
      clear hR
      go_enter Try.func38, Try.ntmps38
      go_wp2_with fail
      refine hc1.mono ?_
      rintro e w2 ⟨rfl, rfl⟩
      go_wp2_with fail
      refine hc2.mono ?_
      rintro e w2 ⟨rfl, rfl⟩
      go_wp2
      go_ret
      exact ⟨rfl, HB.out⟩
    · have hR : (if (true && decide (p ≤ 20000)) = true then (0 : Int) else 4) = 0 := by rw [if_pos]; simp; omega
      rw [hR]
      clear hR
      go_enter Try.func38, Try.ntmps38
      go_wp2_with fail
      refine hc1.mono ?_
      rintro e w2 ⟨rfl, rfl⟩
      go_wp2_with fail
      refine hc2.mono ?_
      rintro e w2 ⟨rfl, rfl⟩
      go_wp2
      go_ret
      exact ⟨rfl, HB.out⟩
  · have h1' : (decide (db.length = ts.length) && dbB ts db) = false := by simpa using h1
    rw [h1'] at hc1 hD
    have hR : (if dataB ts q.src.xs db then (0 : Int) else 4) = 4 := by rw [hD]; rfl
    rw [hR]
    have HB : Hid _ := hbb
    clear hD h1 h1' hb0 hbb hts hdb ha hl hq hR
    obtain ⟨⟨sad, scap, src⟩, wad, wcap, wh, group, keys, sums, sel, ord⟩ := q
    unfold QueryV.cells IntsV.val at *
    simp only at *
    go_enter Try.func38, Try.ntmps38
    go_wp2_with fail
    refine hc1.mono ?_
    rintro e w2 ⟨rfl, rfl⟩
    go_wp2
    go_ret
    exact ⟨rfl, HB.out⟩

end Go.Proofs.Ytdbkdomhlkcbpaa

namespace Go.Scout
open Go.RowKit

/-- What has come of A is B: the blocks of s lie as they lay. -/
structure Kept (s : Nat → Prop) (A B : World) : Prop where
  os : B.os = A.os
  tape : B.tape = A.tape
  output : B.output = A.output
  size : A.heap.size ≤ B.heap.size
  block : ∀ k, k < A.heap.size → s k → B.heap[k]? = A.heap[k]?

theorem Kept.refl (s : Nat → Prop) (A : World) : Kept s A A := ⟨rfl, rfl, rfl, Nat.le_refl _, fun _ _ _ => rfl⟩
theorem Kept.trans {s : Nat → Prop} {A B C : World} (h : Kept s A B) (k : Kept s B C) : Kept s A C :=
  ⟨k.os.trans h.os, k.tape.trans h.tape, k.output.trans h.output, Nat.le_trans h.size k.size, fun i hi hs => (k.block i (Nat.lt_of_lt_of_le hi h.size) hs).trans (h.block i hi hs)⟩
theorem Kept.mono {s t : Nat → Prop} {A B : World} (h : Kept s A B) (hs : ∀ b, b < A.heap.size → t b → s b) : Kept t A B :=
  ⟨h.os, h.tape, h.output, h.size, fun i hi ht => h.block i hi (hs i hi ht)⟩
/-- What is kept behind a step by which a set of blocks grew. -/
theorem Kept.trans' {s t : Nat → Prop} {A B C : World} (h : Kept s A B) (k : Kept t B C) (hs : ∀ b, b < A.heap.size → s b → t b) : Kept s A C :=
  ⟨k.os.trans h.os, k.tape.trans h.tape, k.output.trans h.output, Nat.le_trans h.size k.size, fun i hi hi' => (k.block i (Nat.lt_of_lt_of_le hi h.size) (hs i hi hi')).trans (h.block i hi hi')⟩
theorem Kept.of_below {s : Nat → Prop} {B : Nat} {w w' : World} (h : Below B w w') (hs : ∀ b, b < w.heap.size → s b → b < B) : Kept s w w' :=
  ⟨h.os, h.tape, h.output, h.size, fun k hk hk' => h.block k (hs k hk hk')⟩
theorem Kept.below {s : Nat → Prop} {B : Nat} {w w' : World} (h : Kept s w w') (hB : B ≤ w.heap.size) (hs : ∀ b, b < B → s b) : Below B w w' :=
  ⟨h.os, h.tape, h.output, h.size, fun k hk => h.block k (Nat.lt_of_lt_of_le hk hB) (hs k hk)⟩
theorem Kept.putObj {s : Nat → Prop} (W : World) {r : Nat} (o : Obj) (hr : ¬ s r) : Kept s W (W.putObj r o) :=
  ⟨rfl, rfl, rfl, by simp, fun k _ hs => World.putObj_heap_other (fun e => hr (e ▸ hs))⟩
theorem Kept.alloc {s : Nat → Prop} (W : World) (o : Obj) : Kept s W (W.alloc o) :=
  ⟨rfl, rfl, rfl, by simp, fun k hk _ => Below.heap_alloc W o k hk⟩

/-- Things that are handed out: how one stands as a value, how it lies in memory, in which block, and what it tells. -/
structure El (α κ : Type) where
  enc : α → Value
  At : α → World → Prop
  blk : α → Option Nat
  key : α → κ
  keep : ∀ {x A B}, At x A → A.heap.size ≤ B.heap.size → (∀ b, b < A.heap.size → blk x = some b → B.heap[b]? = A.heap[b]?) → At x B
  inn : ∀ {x A b}, At x A → blk x = some b → b < A.heap.size

variable {α κ : Type} (E : El α κ)

/-- A function over which one can range, and what it hands out, to whoever goes on to the end. -/
def Seq (P : Program) (g : Nat) (lb : Array Value) (rows : List κ) (w0 : World) : Prop :=
  ∀ (l : Nat) (J : List α → (Nat → Prop) → World → Prop) (W : World) (o : Nat → Prop),
    Below w0.heap.size w0 W → (∀ b, o b → w0.heap.size ≤ b ∧ b < W.heap.size) →
    (∀ pre o1 A B, J pre o1 A → Kept (fun b => o1 b ∨ b < W.heap.size) A B → J pre o1 B) →
    (∀ pre x o1 W1, J pre o1 W1 → (pre ++ [x]).map E.key <+: rows → E.At x W1 → (∀ b, E.blk x = some b → ¬ o1 b ∧ (b < w0.heap.size ∨ W.heap.size ≤ b)) → W.heap.size ≤ W1.heap.size →
      YieldAt Fence.wide 0 P l #[E.enc x] W1 fun e W' => e = .returned (.bool true) ∧ ∃ o2, J (pre ++ [x]) o2 W' ∧ Kept (fun b => ¬ o1 b) W1 W' ∧
        ∀ b, o2 b → o1 b ∨ (W1.heap.size ≤ b ∧ b < W'.heap.size) ∨ (E.blk x = some b ∧ W.heap.size ≤ b)) →
    J [] o W →
    Calls P g (#[.func (.yield l) #[] #[]] ++ lb) W fun e W' => (∃ v, e = .returned v) ∧ ∃ ys o', ys.map E.key = rows ∧ J ys o' W' ∧ Kept (fun b => ¬ o b) W W' ∧
      ∀ b, o' b → o b ∨ (W.heap.size ≤ b ∧ b < W'.heap.size)

/-- How the body of a round is left: off its end. -/
def roundKeeps (I : List α → (Nat → Prop) → World → Prop) (pre : List α) (x : α) (n : Nat) (o1 : Nat → Prop) (W : World) : Exit → Act → World → Prop
  | .normal, _, W' => ∃ o2, I (pre ++ [x]) o2 W' ∧ Kept (fun b => ¬ o1 b) W W' ∧ ∀ b, o2 b → o1 b ∨ (W.heap.size ≤ b ∧ b < W'.heap.size) ∨ (E.blk x = some b ∧ n ≤ b)
  | _, _, _ => False

/-- A range over such a function. -/
theorem wp_range {P : Program} {g : Operand} {ps : Array Tmp} {assign body : Code} {Q : Exit → Act → World → Prop} {a : Act} {w : World}
    {gf : Nat} {lb : Array Value} (hg : a.eval g = .func (.func gf) #[] lb) (eg : ∀ args w, (callFunc gf args).run P w = .ok (.enter gf args) w)
    {rows : List κ} {w0 : World} (hseq : Seq E P gf lb rows w0) (hb0 : Below w0.heap.size w0 w) (hps : ps.size = 1)
    (I : List α → (Nat → Prop) → World → Prop) (o : Nat → Prop) (ho : ∀ b, o b → w0.heap.size ≤ b ∧ b < w.heap.size)
    (hI : ∀ pre o1 A B, I pre o1 A → Kept (fun b => o1 b ∨ b < w.heap.size) A B → I pre o1 B) (h0 : I [] o w) (a₁ : α → Act)
    (hassign : ∀ (l : Nat) (x : α) (W : World) (K : Act → World → Prop), K (a₁ x) W →
      assign.wpIn (Fence.wide.inRound l) 0 P (Exit.then K (fun _ _ _ => False)) { tmps := (ps.zip #[E.enc x]).foldl (fun t (p, v) => t.setIfInBounds p v) a.tmps, defers := [] } W)
    (hbody : ∀ (l : Nat) (pre : List α) (x : α) (o1 : Nat → Prop) (W : World), I pre o1 W → (pre ++ [x]).map E.key <+: rows → E.At x W →
      (∀ b, E.blk x = some b → ¬ o1 b ∧ (b < w0.heap.size ∨ w.heap.size ≤ b)) → w.heap.size + 2 ≤ W.heap.size →
      body.wpIn (Fence.wide.inRound l) 0 P (roundKeeps E I pre x w.heap.size o1 W) (a₁ x) W)
    (hdone : ∀ (ys : List α) (o' : Nat → Prop) (W : World), ys.map E.key = rows → I ys o' W → Kept (fun b => ¬ o b) w W → (∀ b, o' b → (o b ∨ (w.heap.size + 2 ≤ b ∧ b < W.heap.size))) →
      W.heap[w.heap.size]? = some (.deferred (some [])) → Q .normal { a with defers := { target := .collected w.heap.size, args := #[] } :: a.defers } W) :
    (Code.rangeFunc g ps assign body).wpIn Fence.wide 0 P Q a w := by
  refine wpIn_rangeFunc ?_
  intro fn hfn
  obtain ⟨rec, hrec⟩ : ∃ rec : LoopState → Option Code → Loop, rec = fun st pe => { state := st, pending := pe, fn, tmps := a.tmps, params := ps, assign, body, defers := w.heap.size } := ⟨_, rfl⟩
  obtain ⟨W1, hW1⟩ : ∃ W1, (w.alloc (.deferred (some []))).alloc (.loop (rec .ready none)) = W1 := ⟨_, rfl⟩
  have hs1 : W1.heap.size = w.heap.size + 2 := by rw [← hW1]; simp
  have hL1 : W1.heap[w.heap.size + 1]? = some (.loop (rec .ready none)) := by
    rw [← hW1]; have := World.alloc_heap_new (w.alloc (.deferred (some []))) (.loop (rec .ready none)); rwa [World.size_alloc] at this
  have hD1 : W1.heap[w.heap.size]? = some (.deferred (some [])) := by
    rw [← hW1]; exact (Below.heap_alloc _ _ _ (by simp)).trans (World.alloc_heap_new w _)
  have hk1 : ∀ s, Kept s w W1 := fun s => by rw [← hW1]; exact (Kept.alloc _ _).trans (Kept.alloc _ _)
  have hbw : Below w0.heap.size w0 W1 := hb0.trans ((hk1 (fun _ => True)).below hb0.size (fun _ _ => trivial))
  refine ⟨w.heap.size + 1, [{ target := .collected w.heap.size, args := #[] }], W1, { target := .fn (.func gf) lb, args := #[.func (.yield (w.heap.size + 1)) #[] #[]] }, W1, gf,
    #[.func (.yield (w.heap.size + 1)) #[] #[]] ++ lb, W1, ?_, ?_, ?_, ?_, fun h => by simp [Fence.wide] at h, ?_⟩
  · rw [← hW1, hrec]; exact run_enterLoop_outer _ _ _ _ _
  · simp only [resolve, hg]
    simp [go_sem]
  · intro f' _; trivial
  · simp [invoke, go_sem, eg]
  · refine callsIn_wide.2 ((hseq (w.heap.size + 1)
      (fun pre o' W => ∃ o1, I pre o1 W ∧ (∀ b, o' b ↔ o1 b ∨ b = w.heap.size ∨ b = w.heap.size + 1) ∧ ¬ o1 w.heap.size ∧ ¬ o1 (w.heap.size + 1) ∧
        W.heap[w.heap.size + 1]? = some (.loop (rec .ready none)) ∧ W.heap[w.heap.size]? = some (.deferred (some [])))
      W1 (fun b => o b ∨ b = w.heap.size ∨ b = w.heap.size + 1) hbw ?_ ?_ ?_ ?_).mono ?_)
    · rintro b (hb | rfl | rfl)
      · exact ⟨(ho b hb).1, by have := (ho b hb).2; omega⟩
      · exact ⟨hb0.size, by omega⟩
      · exact ⟨by have := hb0.size; omega, by omega⟩
    · rintro pre o' A B ⟨o1, hi, ho', hn, hn', hl, hd⟩ hk
      have hlA := (Array.getElem?_eq_some_iff.1 hl).1
      have hdA := (Array.getElem?_eq_some_iff.1 hd).1
      refine ⟨o1, hI pre o1 A B hi (hk.mono fun b _ hb => ?_), ho', hn, hn', (hk.block _ hlA (.inl ((ho' _).2 (.inr (.inr rfl))))).trans hl, (hk.block _ hdA (.inl ((ho' _).2 (.inr (.inl rfl))))).trans hd⟩
      rcases hb with hb | hb
      · exact .inl ((ho' b).2 (.inl hb))
      · exact .inr (by omega)
    · rintro pre x o' W ⟨o1, hi, ho', hn, hn', hl, hd⟩ hpre hx hoff hsz
      have hlt : w.heap.size + 1 < W.heap.size := (Array.getElem?_eq_some_iff.1 hl).1
      have hlt' : w.heap.size < W.heap.size := by omega
      have hy := run_yield (P := P) (args := #[E.enc x]) hl (by rw [hrec]; exact hps.symm)
      rw [hrec] at hy
      refine ⟨fn, _, assign, body, hy, roundIn_of_wpIn hfn (hassign _ x W _ ⟨_, run_beginRound hl (by rw [hrec]), ?_⟩)⟩
      obtain ⟨W2, hW2⟩ : ∃ W2, W.putObj (w.heap.size + 1) (.loop { rec .ready none with state := .busy }) = W2 := ⟨_, rfl⟩
      have hk2 : Kept (fun b => b ≠ w.heap.size + 1) W W2 := by rw [← hW2]; exact Kept.putObj _ _ (fun h => h rfl)
      have hl2 : W2.heap[w.heap.size + 1]? = some (.loop { rec .ready none with state := .busy }) := by rw [← hW2]; exact World.putObj_heap_same hlt
      have hd2 : W2.heap[w.heap.size]? = some (.deferred (some [])) := (hk2.block _ hlt' (by omega)).trans hd
      have hs2 : W2.heap.size = W.heap.size := by rw [← hW2]; simp
      have hI2 : I pre o1 W2 := hI pre o1 W W2 hi (hk2.mono fun b _ hb => by
        rcases hb with hb | hb
        · intro e; exact hn' (e ▸ hb)
        · omega)
      have hx2 : E.At x W2 := E.keep hx hk2.size (fun b hb hbx => hk2.block b hb (fun e => (hoff b hbx).1 ((ho' b).2 (.inr (.inr e)))))
      rw [hW2]
      rw [hrec] at hl2
      refine wpIn_mono (hbody _ pre x o1 W2 hI2 hpre hx2 (fun b hb => ⟨fun h => (hoff b hb).1 ((ho' b).2 (.inl h)), (hoff b hb).2.imp id (by omega)⟩) (by omega)) ?_
      rintro e a3 W3 hp
      cases e with
      | normal =>
        obtain ⟨o2, hi3, hk3, hg3⟩ := hp
        have hl3 : W3.heap[w.heap.size + 1]? = some (.loop { state := .busy, pending := none, fn, tmps := a.tmps, params := ps, assign, body, defers := w.heap.size }) := (hk3.block _ (by omega) hn').trans hl2
        have hlt3 := (Array.getElem?_eq_some_iff.1 hl3).1
        have hd3 : W3.heap[w.heap.size]? = some (.deferred (some [])) := (hk3.block _ (by omega) hn).trans hd2
        have hno : ∀ b, b = w.heap.size ∨ b = w.heap.size + 1 → ¬ o2 b := fun b hb h => by
          rcases hg3 b h with h | h | ⟨h, _⟩
          · rcases hb with rfl | rfl
            · exact hn h
            · exact hn' h
          · omega
          · exact (hoff b h).1 ((ho' b).2 (.inr hb))
        refine ⟨_, _, run_endRound none hl3, rfl, fun b => o2 b ∨ b = w.heap.size ∨ b = w.heap.size + 1, ⟨o2, hI _ o2 W3 _ hi3 (Kept.putObj _ _ ?_), fun b => Iff.rfl, hno _ (.inl rfl), hno _ (.inr rfl), ?_, ?_⟩, ?_, ?_⟩
        · rintro (h | h)
          · exact hno _ (.inr rfl) h
          · omega
        · rw [World.putObj_heap_same hlt3, hrec]; rfl
        · exact (World.putObj_heap_other (by omega)).trans hd3
        · refine ((hk2.mono ?_).trans' (hk3.mono ?_) (fun _ _ h => h)).trans (Kept.putObj _ _ ?_)
          · intro b _ h e; exact h ((ho' b).2 (.inr (.inr e)))
          · intro b _ h h'; exact h ((ho' b).2 (.inl h'))
          · intro h; exact h ((ho' _).2 (.inr (.inr rfl)))
        · rintro b (h | h)
          · rcases hg3 b h with h | h | h
            · exact .inl ((ho' b).2 (.inl h))
            · exact .inr (.inl ⟨by omega, by rw [World.putObj_size]; omega⟩)
            · exact .inr (.inr ⟨h.1, by
                rcases (hoff b h.1).2 with h' | h'
                · have := h.2; have := hb0.size; omega
                · exact h'⟩)
          · exact .inl ((ho' b).2 (.inr h))
      | ret => exact hp.elim
      | exit id => exact hp.elim
      | goto t => exact hp.elim
      | panic ch => exact hp.elim
      | outgrown => exact hp.elim
    · have hno : ∀ b, b = w.heap.size ∨ b = w.heap.size + 1 → ¬ o b := fun b hb h => by have := (ho b h).2; omega
      exact ⟨o, hI _ _ _ _ h0 (hk1 _), fun _ => Iff.rfl, hno _ (.inl rfl), hno _ (.inr rfl), hL1, hD1⟩
    · rintro e W2 ⟨⟨v, rfl⟩, ys, o', hys, ⟨o1, hi, ho', hn, hn', hl, hd⟩, hk, hg⟩
      have hlt := (Array.getElem?_eq_some_iff.1 hl).1
      refine ⟨none, _, by have := run_endLoop (P := P) hl (by rw [hrec]; simp); rw [hrec] at this; exact this, hdone ys o1 _ hys (hI _ _ _ _ hi (Kept.putObj _ _ ?_)) ?_ ?_ ((World.putObj_heap_other (by omega)).trans hd)⟩
      · rintro (h | h)
        · exact hn' h
        · omega
      · refine (Kept.trans' (hk1 _) (hk.mono fun b _ h => h) ?_).trans (Kept.putObj _ _ ?_) |>.mono (s := fun b => ¬ o b ∧ b < w.heap.size) ?_
        · rintro b _ ⟨h, hb⟩ (h' | h' | h')
          · exact h h'
          · omega
          · omega
        · rintro ⟨_, h⟩; omega
        · exact fun b hb h => ⟨h, hb⟩
      · intro b hb
        rcases hg b ((ho' b).2 (.inl hb)) with (h | h | h) | h
        · exact .inl h
        · exact absurd (h ▸ hb) hn
        · exact absurd (h ▸ hb) hn'
        · exact .inr ⟨by omega, by rw [World.putObj_size]; exact h.2⟩

/-- What was handed out at one world is handed out later. -/
theorem Seq.later {P : Program} {g : Nat} {lb : Array Value} {rows : List κ} {w0 w1 : World} (h : Seq E P g lb rows w0) (hb : Below w0.heap.size w0 w1) : Seq E P g lb rows w1 := by
  intro l J W o hW ho hJ hY h0
  refine h l J W o (hb.trans (hW.mono hb.size)) (fun b h => ⟨Nat.le_trans hb.size (ho b h).1, (ho b h).2⟩) hJ (fun pre x o1 W1 hj hp hx hoff hs => hY pre x o1 W1 hj hp hx (fun b hb' => ⟨(hoff b hb').1, (hoff b hb').2.imp (fun h => Nat.lt_of_lt_of_le h hb.size) id⟩) hs) h0

end Go.Scout

