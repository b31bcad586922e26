import Derived.Laws.AppendOwnNone
import Derived.Test.YtlpbelhfpoilpaaCPure2EvPGrAGrB
import Derived.Test.YtlpbelhfpoilpaaCMkrHPure3
import Derived.Test.YtlpbelhfpoilpaaCMkrI
set_option linter.all false
namespace Go.Scout
open Go.RowKit

/-- How many rows a plain query has. -/
def rowsN (q : QueryV) (db : List RowsV) : Nat := ((combosN q.src.xs db).filter (holdsB q.wh)).length

end Go.Scout
namespace Go.Proofs.Ytlpbelhfpoilpaa
open Go.RowKit Go.Scout

set_option maxRecDepth 20000 in
set_option maxHeartbeats 8000000 in
/-- Case.rows of a query that groups nothing and asks no order. -/
theorem caseRows_any (co d : Option Addr) (cc dc : Nat) (ts : List TableD) (q : QueryV) (db : List RowsV) (w : World) (hts : TablesAt w co ts) (hq : q.At w) (hkc : q.keys.xs.length ≤ q.keys.cap) (hoc : q.ord.xs.length ≤ q.ord.cap) (hsc : q.src.xs.length ≤ q.src.cap) (hdb : DbHad w d db)
    (hg : q.group = false) (ho : q.ord.xs = []) (hchk : q.check ts = 0) (hdat : dataB ts q.src.xs db = true) :
    Calls Try.prog 14 #[.agg (caseA (.slice co ts.length cc) q (.slice d db.length dc))] w fun e w' => e = .returned (.tuple #[.int .i64 (rowsN q db), .bool true]) ∧ Below w.heap.size w w' := by
  have hb0 := below_alloc w (.cells (caseA (.slice co ts.length cc) q (.slice d db.length dc)) 41)
  have hev := evalP_any co d cc dc ts q db _ (hts.below hb0) (hq.below hb0) hkc hoc hsc (hdb.below hb0) hg ho hchk hdat
  have hrn : ((((combosN q.src.xs db).filter (holdsB q.wh)).map (fun r => pickN r q.sel.xs))).length = rowsN q db := by rw [List.length_map]; rfl
  have HRN : Hid _ := hrn
  have HB0 : Hid _ := hb0
  clear hrn hb0 hts hq hkc hoc hsc hdb hchk hdat
  generalize ((combosN q.src.xs db).filter (holdsB q.wh)).map (fun r => pickN r q.sel.xs) = rows at *
  generalize rowsN q db = N at *
  obtain ⟨⟨sad, scap, sxs⟩, wad, wcap, wh, group, keys, sums, ⟨lad, lcap, lxs⟩, ⟨oad, ocap, oxs⟩⟩ := q
  unfold QueryV.cells caseA IntsV.val at *
  simp only at *
  subst ho
  subst hg
  simp only [List.length_nil] at *
  go_enter Try.func14, Try.ntmps14
  go_wp2_with fail
  refine hev.mono ?_
  rintro e w2 ⟨v, ys, o, w1, rfl, hys, hG, hb1⟩
  obtain ⟨va, vn, vc, rfl⟩ := ownsRow_slice hG.own
  have hvn : vn = N := by
    have h1 : ys.length = rows.length := by rw [← hys, List.length_map]
    rcases hG.own.2 with ⟨hv, h0⟩ | ⟨g, cap, cur, hv, _⟩
    · injection hv with h2 h3 h4
      rw [h3, ← HRN.out, ← h1, h0]
    · injection hv with h2 h3 h4
      rw [h3, ← HRN.out, ← h1]
  subst hvn
  have hb2 : Below w.heap.size w w2 := HB0.out.trans ((hb1.trans (hG.below.mono hb1.size)).mono HB0.out.size)
  clear hev
  go_wp2
  go_ret2
  exact ⟨rfl, hb2⟩

end Go.Proofs.Ytlpbelhfpoilpaa

namespace Go.Scout
open Go.RowKit

/-- Clauses that a block of its own holds. -/
theorem clauses_of_own {W : World} {base : Nat} {e : TypeId} {v : Value} {ls : List ClauseV} (h : W.ownsRow base e 1 v ls.length (ls.map ClauseV.val)) (hc : ∀ x ∈ ls, CondsAt W x.ad x.cs) (hl : ls.length ≤ 100) :
    ∃ ad cap, v = .slice ad ls.length cap ∧ ClausesAt W ad ls := by
  have hmem : ∀ i, i < ls.length → ls.getD i lz ∈ ls := fun i hi => by simp [List.getD, hi]
  rcases h.2 with ⟨rfl, h0⟩ | ⟨g, cap, cur, rfl, hb, hh, hc2, _, hcs, ht⟩
  · have : ls = [] := List.eq_nil_of_length_eq_zero h0
    subst this
    exact ⟨none, 0, rfl, by simp, fun i hi => absurd hi (by simp), fun i hi => absurd hi (by simp)⟩
  · refine ⟨some ⟨g, 0, none⟩, cap, rfl, by omega, fun i hi => ⟨g, 0, rfl, ?_⟩, fun i hi => hc _ (hmem i hi)⟩
    have h2 : (cur.toList.take (ls.length * 1))[i]? = some (ls.getD i lz).val := by
      rw [ht]
      simp [List.getD, hi]
    have h3 : cur[i]? = some (ls.getD i lz).val := by
      rw [List.getElem?_take] at h2
      split at h2
      · simpa using h2
      · cases h2
    simp only [World.cell?, hh]
    simpa using h3

end Go.Scout

namespace Go.Scout
open Go.RowKit

theorem four_new (w : World) (A C : Obj) (b d : Array Value) (tb td : TypeId) :
    Below w.heap.size w ((((w.alloc A).alloc (.cells b tb)).alloc C).alloc (.cells d td)).drew ∧ GB ((((w.alloc A).alloc (.cells b tb)).alloc C).alloc (.cells d td)).drew (w.heap.size + 1) tb b ∧ GB ((((w.alloc A).alloc (.cells b tb)).alloc C).alloc (.cells d td)).drew (w.heap.size + 3) td d := by
  refine ⟨(Below.step (Below.step (Below.step (below_alloc w A) (below_alloc _ _)) (below_alloc _ _)) (below_alloc _ _)).drew, ?_, ?_⟩
  · have h := GB.alloc (w.alloc A) b tb
    rw [World.size_alloc] at h
    have h2 : GB (((w.alloc A).alloc (.cells b tb)).alloc C) (w.heap.size + 1) tb b := h.keep (Kept.alloc (s := fun _ => True) _ _) trivial
    have h3 : GB ((((w.alloc A).alloc (.cells b tb)).alloc C).alloc (.cells d td)) (w.heap.size + 1) tb b := h2.keep (Kept.alloc (s := fun _ => True) _ _) trivial
    exact h3
  · have h := GB.alloc (((w.alloc A).alloc (.cells b tb)).alloc C) d td
    rw [World.size_alloc, World.size_alloc, World.size_alloc] at h
    exact h

end Go.Scout
namespace Go.Proofs.Ytlpbelhfpoilpaa
open Go.RowKit Go.Scout

set_option maxRecDepth 100000 in
set_option maxHeartbeats 8000000 in
/-- Case.joined, where there was no clause's list. -/
theorem joined_none (co d : Option Addr) (cn cc dn dc : Nat) (q : QueryV) (nad : Option Addr) (ncap : Nat) (ncs : List CondD) (w : World) (hq : q.wad = none) (hq2 : q.wcap = 0) (hq3 : q.wh = []) (hn : CondsAt w nad ncs) :
    Calls Try.prog 15 #[.agg (caseA (.slice co cn cc) q (.slice d dn dc)), .slice nad ncs.length ncap] w fun e w' => ∃ (wad : Option Addr) (wcap : Nat), e = .returned (.agg (caseA (.slice co cn cc) { q with wad := wad, wcap := wcap, wh := q.wh ++ [⟨nad, ncap, ncs⟩] } (.slice d dn dc))) ∧ ClausesAt w' wad (q.wh ++ [⟨nad, ncap, ncs⟩]) ∧ Below w.heap.size w w' := by
  obtain ⟨il, hil, hzl0, hzl1, hzl2⟩ := info_parts Try.infoClause
  obtain ⟨⟨sad, scap, sxs⟩, wad, wcap, wh, group, ⟨kad, kcap, kxs⟩, ⟨uad, ucap, uxs⟩, ⟨lad, lcap, lxs⟩, ⟨oad, ocap, oxs⟩⟩ := q
  simp only at hq hq2 hq3 ⊢
  subst hq hq2 hq3
  unfold caseA IntsV.val at *
  have HN : Hid _ := hn
  clear hn
  go_enter Try.func15, Try.ntmps15
  go_wp2_with fail
  generalize (Question.appendCap 1 0 68).cut (w.tape w.drawn (Question.appendCap 1 0 68)) = cp
  obtain ⟨hb, hg1, hg3⟩ := four_new w (.cells #[.slice co cn cc, .slice sad sxs.length scap, .slice (some ⟨w.heap.size + 1 + 1 + 1, 0, none⟩) 1 cp, .bool group, .slice kad kxs.length kcap, .slice uad uxs.length ucap, .slice lad lxs.length lcap, .slice oad oxs.length ocap, .slice d dn dc] 41) (.cells #[.slice nad ncs.length ncap] 68) #[.slice co cn cc, .slice sad sxs.length scap, .slice (some ⟨w.heap.size + 1 + 1 + 1, 0, none⟩) 1 cp, .bool group, .slice kad kxs.length kcap, .slice uad uxs.length ucap, .slice lad lxs.length lcap, .slice oad oxs.length ocap, .slice d dn dc] (#[Value.slice nad ncs.length ncap] ++ Builtin.zeroCells #[Value.slice none 0 0] (cp - 1)) 41 68
  refine bodyPost_ret (results_cell_row rfl _ _ (w.heap.size + 1) 41 #[.slice co cn cc, .slice sad sxs.length scap, .slice (some ⟨w.heap.size + 1 + 1 + 1, 0, none⟩) 1 cp, .bool group, .slice kad kxs.length kcap, .slice uad uxs.length ucap, .slice lad lxs.length lcap, .slice oad oxs.length ocap, .slice d dn dc] (0, 0) _ rfl hg1 Try.underlying41 rfl (by kernel_rfl)) rfl ?_
  refine ⟨_, _, rfl, ⟨by simp, fun i hi => ⟨w.heap.size + 3, 0, rfl, ?_⟩, fun i hi => ?_⟩, hb⟩
  · obtain rfl : i = 0 := by simp at hi; omega
    refine (hg3.cell 0).trans ?_
    rw [Array.getElem?_append_left (by simp)]
    rfl
  · obtain rfl : i = 0 := by simp at hi; omega
    exact CondsAt.below hb HN.out

end Go.Proofs.Ytlpbelhfpoilpaa

