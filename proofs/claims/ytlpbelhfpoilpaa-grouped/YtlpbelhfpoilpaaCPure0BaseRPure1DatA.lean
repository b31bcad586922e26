import Derived.Test.YtlpbelhfpoilpaaProg
import Derived.Test.YtlpbelhfpoilpaaCBaseBase2Base3Base4
set_option linter.all false
namespace Go.Scout
open Go.RowKit

/-- What a condition is, leaving Not aside: 1 true, -1 false, 0 unknown. -/
def truthV (op l r : Int) : Int :=
  if op = 2 then (if l = 1073741824 then 1 else -1) else if l = 1073741824 ∨ r = 1073741824 then 0 else if (op = 0 ∧ l = r) ∨ (op = 1 ∧ l < r) then 1 else -1
def truthN (c : CondD) (xs : List Int) : Int :=
  let t := truthV c.op (xs.getD c.left.toNat 0) (if c.op = 2 ∨ c.const = true then c.right else xs.getD c.right.toNat 0)
  if c.not then -t else t

def someB (cs : List CondD) (xs : List Int) : Bool := cs.any fun c => decide (truthN c xs = 1)
def keptB (ls : List ClauseV) (is : List Int) (xs : List Int) : Bool := is.all fun i => someB (ls.getD i.toNat lz).cs xs

theorem someB_succ {cs : List CondD} {xs : List Int} {k : Nat} (hk : k < cs.length) : someB (cs.take (k + 1)) xs = (someB (cs.take k) xs || decide (truthN (cs.getD k cz) xs = 1)) := by
  unfold someB
  rw [List.take_succ_eq_append_getElem hk, List.any_append]
  simp [List.getD, hk]
theorem keptB_bad {ls : List ClauseV} {is xs : List Int} {k : Nat} (hk : k < is.length) (h : someB (ls.getD is[k].toNat lz).cs xs = false) : false = keptB ls is xs := by
  symm
  unfold keptB
  rw [List.all_eq_false]
  exact ⟨is[k], List.getElem_mem hk, by rw [h]; simp⟩
theorem keptB_step {ls : List ClauseV} {is xs : List Int} {k : Nat} (hk : k < is.length) (hp : keptB ls (is.take k) xs = true) (h : someB (ls.getD is[k].toNat lz).cs xs = true) : keptB ls (is.take (k + 1)) xs = true := by
  unfold keptB at *
  rw [List.take_succ_eq_append_getElem hk, List.all_append, hp, List.all_cons, List.all_nil, h]
  rfl

theorem condB_parts {c : CondD} {n : Nat} (h : condB c n = true) : (c.op = 0 ∨ c.op = 1 ∨ c.op = 2) ∧ (0 ≤ c.left ∧ c.left < n) ∧ (c.op = 2 ∨ c.const = true ∨ (0 ≤ c.right ∧ c.right < n)) := by
  unfold condB at h
  simp only [Bool.and_eq_true, decide_eq_true_eq] at h
  obtain ⟨⟨⟨⟨h1, h2⟩, h3⟩, h4⟩, h5⟩ := h
  refine ⟨by omega, ⟨h1, h2⟩, ?_⟩
  by_cases ho : c.op = 2
  · exact .inl ho
  · rw [if_neg ho] at h5
    cases hc : c.const
    · rw [if_neg (by simp [hc])] at h5
      simp only [Bool.and_eq_true, decide_eq_true_eq] at h5
      exact .inr (.inr ⟨h5.1, by omega⟩)
    · exact .inr (.inl rfl)


/-- What the program's clauses come to: the greatest of their conditions' truths, one more than ours. -/
def clauseN (cs : List CondD) (xs : List Int) : Int := cs.foldl (fun m c => max m (truthN c xs + 1)) 0
theorem clauseN_succ {cs : List CondD} {xs : List Int} {k : Nat} (hk : k < cs.length) : clauseN (cs.take (k + 1)) xs = max (clauseN (cs.take k) xs) (truthN (cs.getD k cz) xs + 1) := by
  unfold clauseN
  rw [List.take_succ_eq_append_getElem hk, List.foldl_append]
  simp [List.getD, hk]
theorem truthV_range (op l r : Int) : truthV op l r = 1 ∨ truthV op l r = 0 ∨ truthV op l r = -1 := by
  unfold truthV
  split
  · split <;> simp
  · split
    · simp
    · split <;> simp
theorem truthN_range (c : CondD) (xs : List Int) : truthN c xs = 1 ∨ truthN c xs = 0 ∨ truthN c xs = -1 := by
  unfold truthN
  simp only
  have := truthV_range c.op (xs.getD c.left.toNat 0) (if c.op = 2 ∨ c.const = true then c.right else xs.getD c.right.toNat 0)
  split <;> omega
theorem clauseN_range (cs : List CondD) (xs : List Int) : 0 ≤ clauseN cs xs ∧ clauseN cs xs ≤ 2 := by
  unfold clauseN
  have h : ∀ (l : List CondD) (m : Int), 0 ≤ m ∧ m ≤ 2 → 0 ≤ l.foldl (fun m c => max m (truthN c xs + 1)) m ∧ l.foldl (fun m c => max m (truthN c xs + 1)) m ≤ 2 := by
    intro l
    induction l with
    | nil => intro m hm; exact hm
    | cons c l ih =>
      intro m hm
      refine ih _ ?_
      have := truthN_range c xs
      show 0 ≤ max m (truthN c xs + 1) ∧ max m (truthN c xs + 1) ≤ 2
      omega
  exact h cs 0 (by omega)
theorem clauseN_true (cs : List CondD) (xs : List Int) : decide (clauseN cs xs = 2) = someB cs xs := by
  unfold clauseN someB
  have h : ∀ (l : List CondD) (m : Int), 0 ≤ m ∧ m ≤ 2 → decide (l.foldl (fun m c => max m (truthN c xs + 1)) m = 2) = (decide (m = 2) || l.any fun c => decide (truthN c xs = 1)) := by
    intro l
    induction l with
    | nil => intro m _; rw [List.foldl_nil, List.any_nil, Bool.or_false]
    | cons c l ih =>
      intro m hm
      have hr := truthN_range c xs
      rw [List.foldl_cons, ih _ (by omega), List.any_cons, ← Bool.or_assoc]
      congr 1
      rcases hr with h | h | h <;> rw [h]
      · have : max m (1 + 1) = 2 := by omega
        rw [this]; simp
      · by_cases h2 : m = 2
        · subst h2; rfl
        · have : max m (0 + 1) ≠ 2 := by omega
          rw [decide_eq_false this, decide_eq_false h2]; simp
      · by_cases h2 : m = 2
        · subst h2; rfl
        · have : max m (-1 + 1) ≠ 2 := by omega
          rw [decide_eq_false this, decide_eq_false h2]; simp
  rw [h cs 0 (by omega)]
  simp
/-- All the clauses are true of a row. -/
def holdsB (ls : List ClauseV) (xs : List Int) : Bool := ls.all fun c => someB c.cs xs

end Go.Scout

namespace Go.Scout
open Go.RowKit

def iz : IntsV := ⟨none, 0, []⟩

/-- A list of rows: one cell each, which holds the slice of its numbers. -/
def RowsAt (w : World) (ao : Option Addr) (rs : List IntsV) : Prop :=
  rs.length ≤ 1152921504606846976 ∧ CellsAt w ao rs.length (fun i => (rs.getD i iz).val) ∧ ∀ i, i < rs.length → (rs.getD i iz).At w

theorem RowsAt.below {w w' : World} (hb : Below w.heap.size w w') {ao : Option Addr} {rs : List IntsV} (h : RowsAt w ao rs) : RowsAt w' ao rs :=
  ⟨h.1, h.2.1.below hb, fun i hi => IntsAt.below hb (h.2.2 i hi)⟩

/-- A table of a database: a slice of rows. -/
structure RowsV where
  ad : Option Addr
  cap : Nat
  rs : List IntsV

def rz : RowsV := ⟨none, 0, []⟩
def RowsV.val (v : RowsV) : Value := .slice v.ad v.rs.length v.cap
def RowsV.At (v : RowsV) (w : World) : Prop := RowsAt w v.ad v.rs

/-- A database: one cell a table, which holds the slice of its rows. -/
def DbAt (w : World) (ao : Option Addr) (db : List RowsV) : Prop :=
  db.length ≤ 1152921504606846976 ∧ CellsAt w ao db.length (fun i => (db.getD i rz).val) ∧ ∀ i, i < db.length → (db.getD i rz).At w

theorem DbAt.below {w w' : World} (hb : Below w.heap.size w w') {ao : Option Addr} {db : List RowsV} (h : DbAt w ao db) : DbAt w' ao db :=
  ⟨h.1, h.2.1.below hb, fun i hi => RowsAt.below hb (h.2.2 i hi)⟩

end Go.Scout

namespace Go.Scout
open Go.RowKit

def valB (v : Int) : Bool := decide (v = 1073741824) || (decide (-1000 ≤ v) && decide (v ≤ 1000))
def rowB (xs : List Int) (n : Int) : Bool := decide ((xs.length : Int) = n) && xs.all valB
def fitB (rs : List IntsV) (n : Int) : Bool := rs.all fun r => rowB r.xs n
def tabB (d : RowsV) (t : TableD) : Bool := decide (d.rs.length ≤ 50) && fitB d.rs t.cols
def dbB (ts : List TableD) (db : List RowsV) : Bool := (List.range db.length).all fun i => tabB (db.getD i rz) (ts.getD i tz)
def prodN (src : List Int) (db : List RowsV) : Nat := src.foldl (fun n t => n * max 1 (db.getD t.toNat rz).rs.length) 1
def dataB (ts : List TableD) (src : List Int) (db : List RowsV) : Bool := decide (db.length = ts.length) && dbB ts db && decide (prodN src db ≤ 20000)

theorem allG_bad {α : Type} {p : α → Bool} {l : List α} {d : α} {k : Nat} (hk : k < l.length) (h : p (l.getD k d) = false) : l.all p = false := by
  rw [List.all_eq_false]
  have e : l.getD k d = l[k] := by simp [List.getD, hk]
  rw [e] at h
  exact ⟨l[k], List.getElem_mem hk, by rw [h]; simp⟩
theorem allG_step {α : Type} {p : α → Bool} {l : List α} {d : α} {k : Nat} (hk : k < l.length) (hp : (l.take k).all p = true) (h : p (l.getD k d) = true) : (l.take (k + 1)).all p = true := by
  have e : l.getD k d = l[k] := by simp [List.getD, hk]
  rw [e] at h
  rw [List.take_succ_eq_append_getElem hk, List.all_append, hp, List.all_cons, List.all_nil, h]
  rfl
theorem allG_at {α : Type} {p : α → Bool} {l : List α} {d : α} {k : Nat} (hk : k < l.length) (h : l.all p = true) : p (l.getD k d) = true := by
  rw [List.all_eq_true] at h
  have e : l.getD k d = l[k] := by simp [List.getD, hk]
  rw [e]
  exact h _ (List.getElem_mem hk)

theorem rowB_at {xs : List Int} {n : Int} (h : rowB xs n = true) : (xs.length : Int) = n ∧ xs.all valB = true := by
  unfold rowB at h
  simp only [Bool.and_eq_true, decide_eq_true_eq] at h
  exact h

theorem range_all_bad {p : Nat → Bool} {n k : Nat} (hk : k < n) (h : p k = false) : (List.range n).all p = false := by
  rw [List.all_eq_false]
  exact ⟨k, by simpa using hk, by rw [h]; simp⟩
theorem range_all_step {p : Nat → Bool} {k : Nat} (hp : (List.range k).all p = true) (h : p k = true) : (List.range (k + 1)).all p = true := by
  rw [List.range_succ, List.all_append, hp, List.all_cons, List.all_nil, h]
  rfl

theorem prodN_succ {src : List Int} {db : List RowsV} {k : Nat} (hk : k < src.length) : prodN (src.take (k + 1)) db = prodN (src.take k) db * max 1 (db.getD src[k].toNat rz).rs.length := by
  unfold prodN
  rw [List.take_succ_eq_append_getElem hk, List.foldl_append]
  rfl
theorem dbB_len {ts : List TableD} {db : List RowsV} (h : dbB ts db = true) (i : Nat) : (db.getD i rz).rs.length ≤ 50 := by
  by_cases hi : i < db.length
  · unfold dbB at h
    rw [List.all_eq_true] at h
    have := h i (by simpa using hi)
    unfold tabB at this
    simp only [Bool.and_eq_true, decide_eq_true_eq] at this
    exact this.1
  · have : db.getD i rz = rz := by simp [List.getD, hi]
    rw [this]
    decide
theorem prodN_le {src : List Int} {ts : List TableD} {db : List RowsV} (h : dbB ts db = true) : prodN src db ≤ 50 ^ src.length := by
  unfold prodN
  have hg : ∀ (l : List Int) (n : Nat), l.foldl (fun n t => n * max 1 (db.getD t.toNat rz).rs.length) n ≤ n * 50 ^ l.length := by
    intro l
    induction l with
    | nil => intro n; simp
    | cons a l ih =>
      intro n
      refine Nat.le_trans (ih _) ?_
      have h1 := dbB_len h a.toNat
      have h2 : max 1 (db.getD a.toNat rz).rs.length ≤ 50 := by omega
      rw [List.length_cons, Nat.pow_succ, Nat.mul_comm (50 ^ l.length) 50, ← Nat.mul_assoc]
      exact Nat.mul_le_mul_right _ (Nat.mul_le_mul_left _ h2)
  have := hg src 1
  omega
theorem prodN_small {src : List Int} {ts : List TableD} {db : List RowsV} (h : dbB ts db = true) (hs : src.length ≤ 5) : prodN src db ≤ 312500000 := by
  have h1 := prodN_le (src := src) h
  have h2 : (50 : Nat) ^ src.length ≤ 50 ^ 5 := Nat.pow_le_pow_right (by decide) hs
  have h3 : (50 : Nat) ^ 5 = 312500000 := by decide
  omega
theorem prodN_take_le {src : List Int} {ts : List TableD} {db : List RowsV} (h : dbB ts db = true) (hs : src.length ≤ 5) (k : Nat) : prodN (src.take k) db ≤ 312500000 :=
  prodN_small h (by rw [List.length_take]; omega)

end Go.Scout

namespace Go.Proofs.Ytlpbelhfpoilpaa
open Go.RowKit Go.Scout

set_option maxRecDepth 20000 in
set_option maxHeartbeats 8000000 in
theorem rowsFit_any (v : RowsV) (n : Int) (w : World) (hr : v.At w) :
    Calls Try.prog 68 #[v.val, .int .i64 n] w fun e w' => e = .returned (.bool (fitB v.rs n)) ∧ w' = w := by
  obtain ⟨ad, cap, rs⟩ := v
  unfold RowsV.val
  simp only
  have hl := hr.1
  simp only at hl
  have HR : Hid _ := hr
  clear hr
  go_enter Try.func68, Try.ntmps68
  go_wp2
  go_loopw [11] (fun i wr => ∃ k : Nat, k ≤ rs.length ∧ i = .int .i64 k ∧ Hid (fitB (rs.take k) n = true) ∧ w = wr) (fun i _ => rs.length - (intOf i).toNat)
  case atStart => exact ⟨0, Nat.zero_le _, rfl, rfl, rfl⟩
  case round =>
    obtain ⟨k, hk, rfl, HP, rfl⟩ := hrel
    by_cases hlt : k < rs.length
    · obtain ⟨b, off, rfl, hcs⟩ := HR.out.2.1.get hlt
      have hck := hcs k hlt
      have hat := HR.out.2.2 k hlt
      have HBD : Hid (rowB (rs.getD k iz).xs n = false → false = fitB rs n) := fun h => (allG_bad (p := fun r : IntsV => rowB r.xs n) hlt h).symm
      have HGD : Hid (rowB (rs.getD k iz).xs n = true → fitB (rs.take (k + 1)) n = true) := fun h => allG_step (p := fun r : IntsV => rowB r.xs n) hlt HP.out h
      generalize rs.getD k iz = x at *
      obtain ⟨xad, xcap, xs⟩ := x
      simp only at *
      have hck' : w.cell? ⟨b, off + k, none⟩ = some (.slice xad xs.length xcap) := hck
      have hxl := hat.1
      simp only at hxl
      have HX : Hid _ := hat
      clear hck hcs hat
      by_cases hn : (xs.length : Int) = n
      · have hne : ((xs.length : Int) != n) = false := by simpa using hn
        go_wp2
        go_loopw [21] (fun i wr => ∃ m : Nat, m ≤ xs.length ∧ i = .int .i64 m ∧ Hid ((xs.take m).all valB = true) ∧ w = wr) (fun i _ => xs.length - (intOf i).toNat)
        case atStart => exact ⟨0, Nat.zero_le _, rfl, rfl, rfl⟩
        case round =>
          obtain ⟨m, hm, rfl, HV, rfl⟩ := hrel
          by_cases hml : m < xs.length
          · obtain ⟨xb, xoff, rfl, hxc⟩ := HX.out.get hml
            have hxm := hxc m hml
            have HVB : Hid (valB (xs.getD m 0) = false → xs.all valB = false) := fun h => allG_bad hml h
            have HVG : Hid (valB (xs.getD m 0) = true → (xs.take (m + 1)).all valB = true) := fun h => allG_step hml HV.out h
            generalize xs.getD m 0 = y at *
            clear hxc
            by_cases y0 : y = 1073741824
            · have f0 : (y != 1073741824) = false := by simpa using y0
              have HY : Hid (valB y = true) := show _ = _ by simp [valB, y0]
              clear y0
              go_wp2
              go_roundw
              case rel => exact ⟨m + 1, by omega, by go_num, HVG.out HY.out, trivial⟩
              case measure => simp [intOf]; omega
            · have f0 : (y != 1073741824) = true := by simpa using y0
              by_cases y1 : -1000 ≤ y
              · by_cases y2 : y ≤ 1000
                · have HY : Hid (valB y = true) := show _ = _ by simp [valB, y1, y2]
                  clear y0
                  go_wp2
                  go_roundw
                  case rel => exact ⟨m + 1, by omega, by go_num, HVG.out HY.out, trivial⟩
                  case measure => simp [intOf]; omega
                · have HY : Hid (false = fitB rs n) := HBD.out (by unfold rowB; rw [HVB.out (by simp [valB, y0, y2])]; simp)
                  clear y0
                  go_wp2
                  go_ret
                  exact ⟨ret_bool HY.out, rfl⟩
              · have HY : Hid (false = fitB rs n) := HBD.out (by unfold rowB; rw [HVB.out (by simp [valB, y0, y1])]; simp)
                clear y0
                go_wp2
                go_ret
                exact ⟨ret_bool HY.out, rfl⟩
          · have hmm : m = xs.length := by omega
            subst hmm
            rw [List.take_length] at HV
            have HG2 : Hid _ := HGD.out (by unfold rowB; rw [HV.out]; simp [hn])
            go_wp2
            go_roundw
            case rel => exact ⟨k + 1, by omega, by go_num, HG2.out, trivial⟩
            case measure => simp [intOf]; omega
      · have hne : ((xs.length : Int) != n) = true := by simpa using hn
        have HY : Hid (false = fitB rs n) := HBD.out (by unfold rowB; simp [hn])
        go_wp2
        go_ret
        exact ⟨ret_bool HY.out, rfl⟩
    · have hkk : k = rs.length := by omega
      subst hkk
      rw [List.take_length] at HP
      have HPP : Hid (true = fitB rs n) := HP.out.symm
      clear HP
      go_wp2
      go_ret
      exact ⟨ret_bool HPP.out, rfl⟩

set_option maxRecDepth 20000 in
set_option maxHeartbeats 8000000 in
theorem isDatabase_any (co : Option Addr) (cc : Nat) (ts : List TableD) (d : Option Addr) (dcap : Nat) (db : List RowsV) (w : World) (hts : TablesAt w co ts) (hdb : DbAt w d db) :
    Calls Try.prog 49 #[.slice co ts.length cc, .slice d db.length dcap] w fun e w' => e = .returned (.bool (decide (db.length = ts.length) && dbB ts db)) ∧ w' = w := by
  have hl1 := hts.1
  have hl2 := hdb.1
  have HT : Hid _ := hts
  have HD : Hid _ := hdb
  clear hts hdb
  by_cases hn : db.length = ts.length
  · have hne : ((db.length : Int) != (ts.length : Int)) = false := by rw [hn]; simp
    have hR : (decide (db.length = ts.length) && dbB ts db) = dbB ts db := by simp [hn]
    rw [hR]
    have HN : Hid _ := hn
    clear hR hn
    go_enter Try.func49, Try.ntmps49
    go_wp2
    go_loopw [14] (fun i wr => ∃ k : Nat, k ≤ db.length ∧ i = .int .i64 k ∧ Hid ((List.range k).all (fun i => tabB (db.getD i rz) (ts.getD i tz)) = true) ∧ w = wr) (fun i _ => db.length - (intOf i).toNat)
    case atStart => exact ⟨0, Nat.zero_le _, rfl, rfl, rfl⟩
    case round =>
      obtain ⟨k, hk, rfl, HP, rfl⟩ := hrel
      by_cases hlt : k < db.length
      · obtain ⟨b, off, rfl, hcs⟩ := HD.out.2.1.get hlt
        have hck := hcs k hlt
        have hat := HD.out.2.2 k hlt
        have hlt2 : k < ts.length := by have := HN.out; omega
        obtain ⟨tb, toff, rfl, t0, -, -, -, -, -⟩ := HT.out.2 k hlt2
        have HBD : Hid (tabB (db.getD k rz) (ts.getD k tz) = false → false = dbB ts db) := fun h => (range_all_bad (p := fun i => tabB (db.getD i rz) (ts.getD i tz)) hlt h).symm
        have HGD : Hid (tabB (db.getD k rz) (ts.getD k tz) = true → (List.range (k + 1)).all (fun i => tabB (db.getD i rz) (ts.getD i tz)) = true) := fun h => range_all_step (p := fun i => tabB (db.getD i rz) (ts.getD i tz)) HP.out h
        generalize db.getD k rz = x at *
        generalize (ts.getD k tz) = tt at *
        have hcon := rowsFit_any x tt.cols w hat
        obtain ⟨xad, xcap, xs⟩ := x
        obtain ⟨cols, trows, k0, k1, k2, k3⟩ := tt
        unfold RowsV.val at *
        simp only at *
        have hxl := hat.1
        simp only at hxl
        clear hcs hat
        by_cases h50 : 50 < xs.length
        · have HY : Hid (false = dbB ts db) := HBD.out (by unfold tabB; simp; omega)
          go_wp2
          go_ret
          exact ⟨ret_bool HY.out, rfl⟩
        · by_cases hf : fitB xs cols = true
          · have HY : Hid _ := HGD.out (by unfold tabB; simp [hf]; omega)
            rw [hf] at hcon
            clear hf
            go_wp2_with fail
            refine hcon.mono ?_
            rintro e w2 ⟨rfl, rfl⟩
            go_wp2
            go_roundw
            case rel => exact ⟨k + 1, by omega, by go_num, HY.out, trivial⟩
            case measure => simp [intOf]; omega
          · have hf' : fitB xs cols = false := by simpa using hf
            have HY : Hid (false = dbB ts db) := HBD.out (by unfold tabB; simp [hf'])
            rw [hf'] at hcon
            clear hf hf'
            go_wp2_with fail
            refine hcon.mono ?_
            rintro e w2 ⟨rfl, rfl⟩
            go_wp2
            go_ret
            exact ⟨ret_bool HY.out, rfl⟩
      · have hkk : k = db.length := by omega
        subst hkk
        have HPP : Hid (true = dbB ts db) := HP.out.symm
        clear HP
        go_wp2
        go_ret
        exact ⟨ret_bool HPP.out, rfl⟩
  · have hne : ((db.length : Int) != (ts.length : Int)) = true := by simp; omega
    have hR : (decide (db.length = ts.length) && dbB ts db) = false := by simp [hn]
    rw [hR]
    clear hR
    go_enter Try.func49, Try.ntmps49
    go_wp2
    go_ret
    exact ⟨rfl, rfl⟩

set_option maxRecDepth 20000 in
set_option maxHeartbeats 8000000 in
theorem count_any (s : IntsV) (d : Option Addr) (dcap : Nat) (db : List RowsV) (ts : List TableD) (w : World) (hs : s.At w) (hdb : DbAt w d db) (ha : allB s.xs db.length = true) (hl : s.xs.length ≤ 5) (hB : dbB ts db = true) :
    Calls Try.prog 50 #[s.val, .slice d db.length dcap] w fun e w' => e = .returned (.int .i64 (prodN s.xs db)) ∧ w' = w := by
  obtain ⟨sad, scap, src⟩ := s
  unfold IntsV.val
  simp only at *
  have hl2 := hdb.1
  have HS : Hid _ := hs
  have HD : Hid _ := hdb
  have HA : Hid _ := ha
  have HB : Hid _ := hB
  clear hs hdb ha hB
  go_enter Try.func50, Try.ntmps50
  go_wp2
  go_loopw [5, 10] (fun p i wr => ∃ k : Nat, k ≤ src.length ∧ i = .int .i64 k ∧ p = .int .i64 (prodN (src.take k) db) ∧ w = wr) (fun _ i _ => src.length - (intOf i).toNat)
  case atStart => exact ⟨0, Nat.zero_le _, rfl, rfl, rfl⟩
  case round =>
    obtain ⟨k, hk, rfl, rfl, rfl⟩ := hrel
    by_cases hlt : k < src.length
    · have hr := allB_at HA.out hlt
      obtain ⟨b1, o1, rfl, hc1⟩ := HS.out.get hlt
      have hck := hc1 k hlt
      have hj : src[k].toNat < db.length := by omega
      obtain ⟨b2, o2, rfl, hc2⟩ := HD.out.2.1.get hj
      have hcl := hc2 _ hj
      have hp1 := prodN_take_le HB.out hl k
      have hp2 := prodN_take_le HB.out hl (k + 1)
      have h50 := dbB_len HB.out src[k].toNat
      rw [prodN_succ hlt] at hp2
      have HPS : Hid _ := prodN_succ (db := db) hlt
      have e1 : src.getD k 0 = src[k] := by simp [List.getD, hlt]
      rw [e1] at hck
      generalize db.getD src[k].toNat rz = x at *
      generalize prodN (src.take k) db = p at *
      generalize hck0 : src[k] = ck at *
      clear e1 hc1 hc2 hck0
      obtain ⟨cn, rfl⟩ : ∃ cn : Nat, ck = (cn : Int) := ⟨ck.toNat, by omega⟩
      simp only [Int.toNat_natCast] at hj hcl
      obtain ⟨xad, xcap, xs⟩ := x
      unfold RowsV.val at *
      simp only at *
      have hmx : ((max 1 xs.length : Nat) : Int) = if (1 : Int) < (xs.length : Int) then (xs.length : Int) else 1 := by split <;> omega
      have hw : wrap64 ((p : Int) * (if (1 : Int) < (xs.length : Int) then (xs.length : Int) else 1)) = ((p * max 1 xs.length : Nat) : Int) := by
        rw [← hmx, ← Int.natCast_mul]
        unfold wrap64; omega
      have HWr : Hid _ := hw
      clear hw hmx
      go_wp2
      go_roundw
      case rel => exact ⟨k + 1, by omega, by go_num, by rw [HPS.out]; exact congrArg (Value.int .i64) HWr.out, trivial⟩
      case measure => simp [intOf]; omega
    · have hkk : k = src.length := by omega
      subst hkk
      rw [List.take_length]
      go_wp2
      go_ret
      exact ⟨rfl, rfl⟩

set_option maxRecDepth 20000 in
set_option maxHeartbeats 8000000 in
theorem checkData_any (co : Option Addr) (cc : Nat) (ts : List TableD) (q : QueryV) (d : Option Addr) (dcap : Nat) (db : List RowsV) (w : World) (hts : TablesAt w co ts) (hq : q.src.At w) (hdb : DbAt w d db) (ha : allB q.src.xs ts.length = true) (hl : q.src.xs.length ≤ 5) :
    Calls Try.prog 38 #[.slice co ts.length cc, .agg q.cells, .slice d db.length dcap] w fun e w' => e = .returned (.int .i64 (if dataB ts q.src.xs db then 0 else 4)) ∧ Below w.heap.size w w' := by
  have hb0 := below_alloc w (.cells q.cells 26)
  have hc1 := isDatabase_any co cc ts d dcap db _ (hts.below hb0) (hdb.below hb0)
  have hbb : Below w.heap.size w (w.alloc (.cells q.cells 26)) := hb0
  have hD : dataB ts q.src.xs db = ((decide (db.length = ts.length) && dbB ts db) && decide (prodN q.src.xs db ≤ 20000)) := rfl
  by_cases h1 : (decide (db.length = ts.length) && dbB ts db) = true
  · have h1' := h1
    simp only [Bool.and_eq_true, decide_eq_true_eq] at h1'
    have hc2 := count_any q.src d dcap db ts _ (IntsAt.below hb0 hq) (hdb.below hb0) (by rw [h1'.1]; exact ha) hl h1'.2
    rw [h1] at hc1 hD
    rw [hD]
    have hs : ((prodN q.src.xs db : Nat) : Int) > 20000 ∨ ¬ ((prodN q.src.xs db : Nat) : Int) > 20000 := by omega
    have HB : Hid _ := hbb
    have HN : Hid _ := h1'
    clear hD h1 h1' hb0 hbb hts hdb ha hl hq
    obtain ⟨⟨sad, scap, src⟩, wad, wcap, wh, group, keys, sums, sel, ord⟩ := q
    unfold QueryV.cells IntsV.val at *
    simp only at *
    generalize prodN src db = p at *
    have hx0 : (w.alloc (.cells #[.slice sad src.length scap, .slice wad wh.length wcap, .bool group, .slice keys.ad keys.xs.length keys.cap, .slice sums.ad sums.xs.length sums.cap, .slice sel.ad sel.xs.length sel.cap, .slice ord.ad ord.xs.length ord.cap] 26)).cell? ⟨w.heap.size, 0, none⟩ = some (.slice sad src.length scap) := by simp
    rcases hs with hs | hs
    · have hR : (if (true && decide (p ≤ 20000)) = true then (0 : Int) else 4) = 4 := by rw [if_neg]; simp; omega
      rw [hR]
      clear hR
      go_enter Try.func38, Try.ntmps38
      go_wp2_with fail
      refine hc1.mono ?_
      rintro e w2 ⟨rfl, rfl⟩
      go_wp2_with fail
      refine hc2.mono ?_
      rintro e w2 ⟨rfl, rfl⟩
      go_wp2
      go_ret
      exact ⟨rfl, HB.out⟩
    · have hR : (if (true && decide (p ≤ 20000)) = true then (0 : Int) else 4) = 0 := by rw [if_pos]; simp; omega
      rw [hR]
      clear hR
      go_enter Try.func38, Try.ntmps38
      go_wp2_with fail
      refine hc1.mono ?_
      rintro e w2 ⟨rfl, rfl⟩
      go_wp2_with fail
      refine hc2.mono ?_
      rintro e w2 ⟨rfl, rfl⟩
      go_wp2
      go_ret
      exact ⟨rfl, HB.out⟩
  · have h1' : (decide (db.length = ts.length) && dbB ts db) = false := by simpa using h1
    rw [h1'] at hc1 hD
    have hR : (if dataB ts q.src.xs db then (0 : Int) else 4) = 4 := by rw [hD]; rfl
    rw [hR]
    have HB : Hid _ := hbb
    clear hD h1 h1' hb0 hbb hts hdb ha hl hq hR
    obtain ⟨⟨sad, scap, src⟩, wad, wcap, wh, group, keys, sums, sel, ord⟩ := q
    unfold QueryV.cells IntsV.val at *
    simp only at *
    go_enter Try.func38, Try.ntmps38
    go_wp2_with fail
    refine hc1.mono ?_
    rintro e w2 ⟨rfl, rfl⟩
    go_wp2
    go_ret
    exact ⟨rfl, HB.out⟩

end Go.Proofs.Ytlpbelhfpoilpaa

