import Derived.Deep.Cut
import Derived.Test.YtlpbelhfpoilpaaCGrOThAMkrAMkrB
import Derived.Test.YtlpbelhfpoilpaaCMkrI
import Derived.Test.YtlpbelhfpoilpaaCKeAKeBKeC
import Derived.Test.YtlpbelhfpoilpaaCKeD
set_option linter.all false
namespace Go.Proofs.Ytlpbelhfpoilpaa
open Go.RowKit Go.Scout

/-- Case.joined: the case with one clause more. -/
theorem joined_any (co d : Option Addr) (cn cc dn dc : Nat) (q : QueryV) (nad : Option Addr) (ncap : Nat) (ncs : List CondD) (w : World) (hq : ClausesAt w q.wad q.wh) (hnl : q.wad = none → q.wcap = 0) (hw8 : q.wh.length ≤ 8) (hn : CondsAt w nad ncs) :
    Calls Try.prog 15 #[.agg (caseA (.slice co cn cc) q (.slice d dn dc)), .slice nad ncs.length ncap] w fun e w' => ∃ (wad : Option Addr) (wcap : Nat), e = .returned (.agg (caseA (.slice co cn cc) { q with wad := wad, wcap := wcap, wh := q.wh ++ [⟨nad, ncap, ncs⟩] } (.slice d dn dc))) ∧ ClausesAt w' wad (q.wh ++ [⟨nad, ncap, ncs⟩]) ∧ Below w.heap.size w w' := by
  cases h : q.wad with
  | none =>
    refine joined_none co d cn cc dn dc q nad ncap ncs w h (hnl h) ?_ hn
    cases hh : q.wh with
    | nil => rfl
    | cons a l =>
      obtain ⟨b, off, e, _⟩ := hq.2.1 0 (by rw [hh]; simp)
      rw [h] at e
      cases e
  | some xa => exact joined_some co d cn cc dn dc q xa nad ncap ncs w h hq hw8 hn

end Go.Proofs.Ytlpbelhfpoilpaa

namespace Go.Scout
open Go.RowKit

theorem holdsB_snoc (wh : List ClauseV) (x : ClauseV) (r : List Int) : holdsB (wh ++ [x]) r = (holdsB wh r && someB x.cs r) := by simp [holdsB]

/-- The conditions that tell where one is unknown. -/
def nilsD (fx : Bool) (pl rr : Int) : List CondD := if fx then [⟨false, 2, pl, false, 0⟩] else [⟨false, 2, pl, false, 0⟩, ⟨false, 2, rr, false, 0⟩]

theorem nil_true (p : Int) (r : List Int) : decide (truthN ⟨false, 2, p, false, 0⟩ r = 1) = decide (r.getD p.toNat 0 = 1073741824) := by
  unfold truthN truthV
  by_cases h : r.getD p.toNat 0 = 1073741824
  · simp only [h]; rfl
  · simp only [h, if_true, if_false]; rfl

theorem three (op pl rr : Int) (fx : Bool) (hop : op = 0 ∨ op = 1) (hfx : fx = true → rr ≠ 1073741824) (r : List Int) :
    (someB [⟨false, op, pl, fx, rr⟩] r = true ∧ someB [⟨true, op, pl, fx, rr⟩] r = false ∧ someB (nilsD fx pl rr) r = false) ∨
    (someB [⟨false, op, pl, fx, rr⟩] r = false ∧ someB [⟨true, op, pl, fx, rr⟩] r = true ∧ someB (nilsD fx pl rr) r = false) ∨
    (someB [⟨false, op, pl, fx, rr⟩] r = false ∧ someB [⟨true, op, pl, fx, rr⟩] r = false ∧ someB (nilsD fx pl rr) r = true) := by
  have hop2 : ¬ op = 2 := by omega
  have e0 : someB [⟨false, op, pl, fx, rr⟩] r = decide (truthV op (r.getD pl.toNat 0) (if fx = true then rr else r.getD rr.toNat 0) = 1) := by
    simp [someB, truthN, hop2]
  have e1 : someB [⟨true, op, pl, fx, rr⟩] r = decide (-truthV op (r.getD pl.toNat 0) (if fx = true then rr else r.getD rr.toNat 0) = 1) := by
    simp [someB, truthN, hop2]
  have e2 : someB (nilsD fx pl rr) r = decide (r.getD pl.toNat 0 = 1073741824 ∨ (if fx = true then rr else r.getD rr.toNat 0) = 1073741824) := by
    cases fx
    · show (decide (truthN ⟨false, 2, pl, false, 0⟩ r = 1) || (decide (truthN ⟨false, 2, rr, false, 0⟩ r = 1) || false)) = _
      rw [nil_true, nil_true]
      simp
    · have := hfx rfl
      show (decide (truthN ⟨false, 2, pl, false, 0⟩ r = 1) || false) = _
      rw [nil_true]
      simp [this]
  rw [e0, e1, e2]
  generalize r.getD pl.toNat 0 = lv
  generalize (if fx = true then rr else r.getD rr.toNat 0) = rv
  by_cases hn : lv = 1073741824 ∨ rv = 1073741824
  · rw [truthV_null op lv rv hop hn]
    simp [hn]
  · rcases truthV_three op lv rv hop ⟨fun e => hn (.inl e), fun e => hn (.inr e)⟩ with h | h <;> rw [h] <;> simp [hn]

/-- Thirds, as numbers. -/
theorem thirds_count (q : QueryV) (db : List RowsV) (a1 a2 a3 : Option Addr) (n1 n2 n3 : Nat) (c1 c2 c3 : ClauseV) (op pl rr : Int) (fx : Bool) (hop : op = 0 ∨ op = 1) (hfx : fx = true → rr ≠ 1073741824) (h1 : c1.cs = [⟨false, op, pl, fx, rr⟩]) (h2 : c2.cs = [⟨true, op, pl, fx, rr⟩]) (h3 : c3.cs = nilsD fx pl rr) :
    rowsN { q with wad := a1, wcap := n1, wh := q.wh ++ [c1] } db + rowsN { q with wad := a2, wcap := n2, wh := q.wh ++ [c2] } db + rowsN { q with wad := a3, wcap := n3, wh := q.wh ++ [c3] } db = rowsN q db := by
  have h := filter_three (combosN q.src.xs db) (holdsB q.wh) (someB c1.cs) (someB c2.cs) (someB c3.cs) (fun r _ => by rw [h1, h2, h3]; exact three op pl rr fx hop hfx r)
  unfold rowsN
  have e : ∀ c : ClauseV, holdsB (q.wh ++ [c]) = fun r => holdsB q.wh r && someB c.cs r := fun c => funext (holdsB_snoc q.wh c)
  simp only [e]
  exact h

theorem rowsN_le {ts : List TableD} {q q' : QueryV} {db : List RowsV} (h : CaseOk ts q db) (hs : q'.src.xs.length ≤ 4) : rowsN q' db ≤ 20000 := by
  have hd := h.data hs
  unfold dataB at hd
  simp only [Bool.and_eq_true, decide_eq_true_eq] at hd
  have h1 := combos_count q'.src.xs db
  unfold rowsN
  have := List.length_filter_le (holdsB q'.wh) (combosN q'.src.xs db)
  omega

end Go.Scout

namespace Go.Scout
open Go.RowKit

/-- The query of a case, made plain. -/
def plainQ (q : QueryV) (b : Nat) : QueryV := ⟨q.src, q.wad, q.wcap, q.wh, false, ⟨none, 0, []⟩, ⟨none, 0, []⟩, ⟨some ⟨b, 0, none⟩, 1, [0]⟩, ⟨none, 0, []⟩⟩

theorem plain_check {ts : List TableD} {q : QueryV} {db : List RowsV} (h : CaseOk ts q db) (b : Nat) (wad : Option Addr) (wcap : Nat) (ex : List ClauseV) (hl : ex.length ≤ 2) (he : ∀ x ∈ ex, ClauseOk (widthN ts q.src.xs) x) : ({ plainQ q b with wad := wad, wcap := wcap, wh := q.wh ++ ex } : QueryV).check ts = 0 := by
  have hcat := cat_of_tabs h.tabs.1 h.tabs.2.1 h.tabs.2.2
  have hs := h.qry.src
  have hw := h.qry.wh
  have hp := (widthN_pos hcat hs.1 hs.2.1 (by omega)).1
  refine check_zero hcat ⟨hs.1, hs.2.1, by show q.src.xs.length ≤ 5; omega⟩ ⟨by show (q.wh ++ ex).length ≤ 8; rw [List.length_append]; omega, fun x hx => ?_⟩ ⟨by show 1 ≤ 8; omega, by show 0 ≤ 4; omega, by show 0 ≤ 4; omega, by show 0 ≤ 4; omega⟩ ?_
  · rcases List.mem_append.1 hx with hx | hx
    · exact hw.2 x hx
    · exact he x hx
  · show restB (widthN ts q.src.xs) false [] [] [0] [] = true
    unfold restB allB
    simp [outN, apartB]
    omega

end Go.Scout
namespace Go.Proofs.Ytlpbelhfpoilpaa
open Go.RowKit Go.Scout

theorem plain_facts (w1 : World) (ts : List TableD) (q : QueryV) (db : List RowsV) (co d : Option Addr) (cc dc n : Nat) (hts : TablesAt w1 co ts) (hls : ListsIn n q w1) (hdb : DbHad w1 d db) :
    TablesAt ((w1.alloc (.cells (caseA (.slice co ts.length cc) (plainQ q (w1.heap.size + 1)) (.slice d db.length dc)) 41)).alloc (.cells #[.int .i64 0] 3)) co ts ∧ (plainQ q (w1.heap.size + 1)).At ((w1.alloc (.cells (caseA (.slice co ts.length cc) (plainQ q (w1.heap.size + 1)) (.slice d db.length dc)) 41)).alloc (.cells #[.int .i64 0] 3)) ∧ DbHad ((w1.alloc (.cells (caseA (.slice co ts.length cc) (plainQ q (w1.heap.size + 1)) (.slice d db.length dc)) 41)).alloc (.cells #[.int .i64 0] 3)) d db ∧ GB ((w1.alloc (.cells (caseA (.slice co ts.length cc) (plainQ q (w1.heap.size + 1)) (.slice d db.length dc)) 41)).alloc (.cells #[.int .i64 0] 3)) w1.heap.size 41 (caseA (.slice co ts.length cc) (plainQ q (w1.heap.size + 1)) (.slice d db.length dc)) ∧ Below w1.heap.size w1 ((w1.alloc (.cells (caseA (.slice co ts.length cc) (plainQ q (w1.heap.size + 1)) (.slice d db.length dc)) 41)).alloc (.cells #[.int .i64 0] 3)) := by
  have hb2 := below_alloc w1 (.cells (caseA (.slice co ts.length cc) (plainQ q (w1.heap.size + 1)) (.slice d db.length dc)) 41)
  have hb3 := below_alloc (w1.alloc (.cells (caseA (.slice co ts.length cc) (plainQ q (w1.heap.size + 1)) (.slice d db.length dc)) 41)) (.cells #[.int .i64 0] 3)
  have hb12 := hb2.trans (hb3.mono hb2.size)
  have hnil : ∀ W : World, IntsAt W none [] := fun W => ⟨by simp, fun i hi => by simp at hi⟩
  have h := heap_alloc_new (w1.alloc (.cells (caseA (.slice co ts.length cc) (plainQ q (w1.heap.size + 1)) (.slice d db.length dc)) 41)) (.cells #[.int .i64 0] 3)
  rw [World.size_alloc] at h
  refine ⟨hts.below hb12, ⟨IntsAt.below hb12 hls.at'.src, hls.at'.wh.below hb12, hnil _, hnil _, (one_int h (Array.getElem?_eq_some_iff.1 h).1).1, hnil _⟩, hdb.below hb12, ?_, hb12⟩
  exact (GB.alloc w1 (caseA (.slice co ts.length cc) (plainQ q (w1.heap.size + 1)) (.slice d db.length dc)) 41).keep (Kept.of_below (s := fun _ => True) hb3 (fun b hb _ => hb)) trivial

theorem rows_at (W2 : World) (ts : List TableD) (q : QueryV) (db : List RowsV) (co d : Option Addr) (cc dc b : Nat) (hok : CaseOk ts q db) (hsc : q.src.xs.length ≤ q.src.cap) (hts : TablesAt W2 co ts) (hq : (plainQ q b).At W2) (hdb : DbHad W2 d db) (X : World) (hX : Below W2.heap.size W2 X) (wad : Option Addr) (wcap : Nat) (ex : List ClauseV) (hc : ClausesAt X wad (q.wh ++ ex)) (hl : ex.length ≤ 2) (he : ∀ x ∈ ex, ClauseOk (widthN ts q.src.xs) x) :
    Calls Try.prog 14 #[.agg (caseA (.slice co ts.length cc) { plainQ q b with wad := wad, wcap := wcap, wh := q.wh ++ ex } (.slice d db.length dc))] X fun e w' => e = .returned (.tuple #[.int .i64 (rowsN { plainQ q b with wad := wad, wcap := wcap, wh := q.wh ++ ex } db), .bool true]) ∧ Below X.heap.size X w' := by
  have hqX := hq.below hX
  exact caseRows_any co d cc dc ts { plainQ q b with wad := wad, wcap := wcap, wh := q.wh ++ ex } db X (hts.below hX) ⟨hqX.src, hc, hqX.keys, hqX.sums, hqX.sel, hqX.ord⟩ (Nat.le_refl _) (Nat.le_refl _) hsc (hdb.below hX) rfl rfl (plain_check hok b wad wcap ex hl he) (hok.data (by have := hok.qry.src; exact this.2.2))

theorem conds_one {W : World} {b : Nat} {t : TypeId} {c : CondD} {rest : Array Value} (h : W.heap[b]? = some (.cells (#[.bool c.not, .int .i64 c.op, .int .i64 c.left, .bool c.const, .int .i64 c.right] ++ rest) t)) : CondsAt W (some ⟨b, 0, none⟩) [c] := by
  refine ⟨by simp, fun i hi => ⟨b, 0, rfl, ?_⟩⟩
  have hi0 : i = 0 := by simp at hi; omega
  subst hi0
  refine ⟨?_, ?_, ?_, ?_, ?_⟩ <;> exact cells_cell h (by rw [Array.getElem?_append_left (by simp)]; rfl)

theorem conds_two {W : World} {b : Nat} {t : TypeId} {c e : CondD} {rest : Array Value} (h : W.heap[b]? = some (.cells (#[.bool c.not, .int .i64 c.op, .int .i64 c.left, .bool c.const, .int .i64 c.right] ++ (#[.bool e.not, .int .i64 e.op, .int .i64 e.left, .bool e.const, .int .i64 e.right] ++ rest)) t)) : CondsAt W (some ⟨b, 0, none⟩) [c, e] := by
  refine ⟨by simp, fun i hi => ⟨b, 0, rfl, ?_⟩⟩
  match i, hi with
  | 0, _ => refine ⟨?_, ?_, ?_, ?_, ?_⟩ <;> exact cells_cell h (by rw [Array.getElem?_append_left (by simp)]; rfl)
  | 1, _ => refine ⟨?_, ?_, ?_, ?_, ?_⟩ <;> exact cells_cell h (by rw [Array.getElem?_append_right (by simp), Array.getElem?_append_left (by simp)]; rfl)

/-- What lies ahead of the counting. -/
def ThirdsAt (tc : TypeId) (w3 V : World) (D N : Nat) (nad : Option Addr) (op pl rr : Int) (fx : Bool) : Prop :=
  GB V D tc #[.bool false, .int .i64 op, .int .i64 pl, .bool fx, .int .i64 rr] ∧ GB V N tc #[.bool true, .int .i64 op, .int .i64 pl, .bool fx, .int .i64 rr] ∧ CondsAt V nad (nilsD fx pl rr) ∧ Below w3.heap.size w3 V

theorem thirds_fixed (w3 : World) (op pl rr : Int) : ThirdsAt 46 w3 (((w3.alloc (.cells #[.bool false, .int .i64 op, .int .i64 pl, .bool true, .int .i64 rr] 46)).alloc (.cells #[.bool false, .int .i64 2, .int .i64 pl, .bool false, .int .i64 0] 46)).alloc (.cells #[.bool true, .int .i64 op, .int .i64 pl, .bool true, .int .i64 rr] 46)) w3.heap.size (w3.heap.size + 1 + 1) (some ⟨w3.heap.size + 1, 0, none⟩) op pl rr true := by
  have hh := allocs_heap [.cells #[.bool false, .int .i64 op, .int .i64 pl, .bool true, .int .i64 rr] 46, .cells #[.bool false, .int .i64 2, .int .i64 pl, .bool false, .int .i64 0] 46, .cells #[.bool true, .int .i64 op, .int .i64 pl, .bool true, .int .i64 rr] 46] w3
  have hb := allocs_below [.cells #[.bool false, .int .i64 op, .int .i64 pl, .bool true, .int .i64 rr] 46, .cells #[.bool false, .int .i64 2, .int .i64 pl, .bool false, .int .i64 0] 46, .cells #[.bool true, .int .i64 op, .int .i64 pl, .bool true, .int .i64 rr] 46] w3
  refine ⟨hh 0 (by simp), hh 2 (by simp), ?_, hb⟩
  exact conds_one (c := ⟨false, 2, pl, false, 0⟩) (rest := #[]) (hh 1 (by simp))

theorem thirds_free (w3 : World) (op pl rr : Int) (z : Array Value) : ThirdsAt 46 w3 (((((w3.alloc (.cells #[.bool false, .int .i64 op, .int .i64 pl, .bool false, .int .i64 rr] 46)).alloc (.cells #[.bool false, .int .i64 2, .int .i64 pl, .bool false, .int .i64 0] 46)).alloc (.cells #[.bool false, .int .i64 2, .int .i64 rr, .bool false, .int .i64 0] 46)).alloc (.cells (#[.bool false, .int .i64 2, .int .i64 pl, .bool false, .int .i64 0] ++ (#[.bool false, .int .i64 2, .int .i64 rr, .bool false, .int .i64 0] ++ z)) 46)).alloc (.cells #[.bool true, .int .i64 op, .int .i64 pl, .bool false, .int .i64 rr] 46)).drew w3.heap.size (w3.heap.size + 1 + 1 + 1 + 1) (some ⟨w3.heap.size + 1 + 1 + 1, 0, none⟩) op pl rr false := by
  have hh := allocs_heap [.cells #[.bool false, .int .i64 op, .int .i64 pl, .bool false, .int .i64 rr] 46, .cells #[.bool false, .int .i64 2, .int .i64 pl, .bool false, .int .i64 0] 46, .cells #[.bool false, .int .i64 2, .int .i64 rr, .bool false, .int .i64 0] 46, .cells (#[.bool false, .int .i64 2, .int .i64 pl, .bool false, .int .i64 0] ++ (#[.bool false, .int .i64 2, .int .i64 rr, .bool false, .int .i64 0] ++ z)) 46, .cells #[.bool true, .int .i64 op, .int .i64 pl, .bool false, .int .i64 rr] 46] w3
  have hb := allocs_below [.cells #[.bool false, .int .i64 op, .int .i64 pl, .bool false, .int .i64 rr] 46, .cells #[.bool false, .int .i64 2, .int .i64 pl, .bool false, .int .i64 0] 46, .cells #[.bool false, .int .i64 2, .int .i64 rr, .bool false, .int .i64 0] 46, .cells (#[.bool false, .int .i64 2, .int .i64 pl, .bool false, .int .i64 0] ++ (#[.bool false, .int .i64 2, .int .i64 rr, .bool false, .int .i64 0] ++ z)) 46, .cells #[.bool true, .int .i64 op, .int .i64 pl, .bool false, .int .i64 rr] 46] w3
  refine ⟨hh 0 (by simp), hh 4 (by simp), ?_, hb.drew⟩
  exact conds_two (c := ⟨false, 2, pl, false, 0⟩) (e := ⟨false, 2, rr, false, 0⟩) (rest := z) (hh 3 (by simp))

end Go.Proofs.Ytlpbelhfpoilpaa

