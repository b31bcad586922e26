import Derived.Test.YtpkihnafdaedoaaBase9
import Derived.Test.YtpkihnafdaedoaaSameA
namespace Go.Scout
open Go.RowKit

theorem tabsAt {w : World} {b t : Nat} {ts : List TableD} (h : GB w b t (lentTabs ts)) (hl : ts.length ≤ 192153584101141162) : TablesAt w (some ⟨b, 0, none⟩) ts := by
  refine ⟨hl, fun i hi => ⟨b, 0, rfl, ?_⟩⟩
  have hc : ∀ j, j < 6 → w.cell? ⟨b, 0 + (i * 6 + j), none⟩ = (tabVals (ts.getD i tz))[j]? := fun j hj => by
    rw [Nat.zero_add, h.cell]
    unfold lentTabs
    rw [List.getElem?_toArray]
    exact flat_at tabVals 6 tvals_len tz ts _ i j hi hj
  exact ⟨hc 0 (by omega), hc 1 (by omega), hc 2 (by omega), hc 3 (by omega), hc 4 (by omega), hc 5 (by omega)⟩

theorem condsAt {w : World} {b t : Nat} {cs : List CondD} (h : GB w b t (lentConds cs)) (hl : cs.length ≤ 230584300921369395) : CondsAt w (some ⟨b, 0, none⟩) cs := by
  refine ⟨hl, fun i hi => ⟨b, 0, rfl, ?_⟩⟩
  have hc : ∀ j, j < 5 → w.cell? ⟨b, 0 + (i * 5 + j), none⟩ = (CondD.vals (cs.getD i cz))[j]? := fun j hj => by
    rw [Nat.zero_add, h.cell]
    unfold lentConds
    rw [List.getElem?_toArray]
    exact flat_at CondD.vals 5 cvals_len cz cs _ i j hi hj
  exact ⟨hc 0 (by omega), hc 1 (by omega), hc 2 (by omega), hc 3 (by omega), hc 4 (by omega)⟩

/-- The clauses as lent: other addresses. -/
def lentLs (ls : List ClauseV) (A : Nat → Nat) : List ClauseV := (List.range ls.length).map fun i => ⟨some ⟨A i, 0, none⟩, (ls.getD i lz).cs.length + 2, (ls.getD i lz).cs⟩
theorem lentLs_len (ls : List ClauseV) (A : Nat → Nat) : (lentLs ls A).length = ls.length := by simp [lentLs]
theorem lentLs_at (ls : List ClauseV) (A : Nat → Nat) {i : Nat} (hi : i < ls.length) : (lentLs ls A).getD i lz = ⟨some ⟨A i, 0, none⟩, (ls.getD i lz).cs.length + 2, (ls.getD i lz).cs⟩ := by
  unfold lentLs
  simp [List.getD, hi]
theorem lentLs_cs (ls : List ClauseV) (A : Nat → Nat) : (lentLs ls A).map ClauseV.cs = ls.map ClauseV.cs := by
  apply List.ext_getElem?
  intro i
  by_cases hi : i < ls.length
  · simp [lentLs, hi]
  · simp [lentLs, hi]

def lentQ (q : QueryV) (bf bk bu be bo bw : Nat) (A : Nat → Nat) : QueryV :=
  ⟨⟨some ⟨bf, 0, none⟩, q.src.xs.length + 2, q.src.xs⟩, some ⟨bw, 0, none⟩, q.wh.length + 2, lentLs q.wh A, q.group, ⟨some ⟨bk, 0, none⟩, q.keys.xs.length + 2, q.keys.xs⟩, ⟨some ⟨bu, 0, none⟩, q.sums.xs.length + 2, q.sums.xs⟩, ⟨some ⟨be, 0, none⟩, q.sel.xs.length + 2, q.sel.xs⟩, ⟨some ⟨bo, 0, none⟩, q.ord.xs.length + 2, q.ord.xs⟩⟩

theorem lentQ_check (q : QueryV) (bf bk bu be bo bw : Nat) (A : Nat → Nat) (ts : List TableD) : (lentQ q bf bk bu be bo bw A).check ts = q.check ts := by
  have : (lentQ q bf bk bu be bo bw A).whs = q.whs := lentLs_cs q.wh A
  unfold QueryV.check
  rw [this]
  rfl

end Go.Scout
namespace Go.Proofs.Ytpkihnafdaedoaa
open Go.RowKit Go.Scout

theorem lentRow {w : World} {b n : Nat} {t tS : TypeId} {ls : List ClauseV} {A : Nat → Nat} {f : Nat → Value} (hn : n = ls.length) (h : w.rowIs b t (n + 2) f) (hf : ∀ i, i < n → f i = .slice (some ⟨A i, 0, none⟩) (ls.getD i lz).cs.length ((ls.getD i lz).cs.length + 2))
    (hal : ∀ i, i < n → GB w (A i) tS (lentConds (ls.getD i lz).cs)) (hl : ls.length ≤ 1152921504606846976) (hcl : ∀ i, i < ls.length → (ls.getD i lz).cs.length ≤ 230584300921369395) : ClausesAt w (some ⟨b, 0, none⟩) (lentLs ls A) := by
  subst hn
  refine ⟨by rw [lentLs_len]; exact hl, fun i hi => ⟨b, 0, rfl, ?_⟩, fun i hi => ?_⟩
  · rw [lentLs_len] at hi
    rw [Nat.zero_add, h.cell (by omega), hf i hi]
    show _ = some ((lentLs ls A).getD i lz).val
    rw [lentLs_at _ _ hi]
    rfl
  · rw [lentLs_len] at hi
    rw [lentLs_at _ _ hi]
    exact condsAt (hal i hi) (hcl i hi)

theorem Giv_query {w w' : World} {G tG tC tA tS tI tT tN tR tL : Nat} {ts : List TableD} {q : QueryV} {bc bf bk bu be bo bw bp bd : Nat} {v : Value} {A : Nat → Nat} {k1 k2 s1 i1 s2 i2 : Nat}
    (h : Giv w w' G tG tC tA tS tI tT tN tR tL ts q bc bf bk bu be bo bw bp bd v A k1 k2 s1 i1 s2 i2) (hq : q.At w) : (lentQ q bf bk bu be bo bw A).At w' :=
  ⟨lentAt h.src hq.src.1, lentRow rfl h.row (fun i hi => by rw [if_pos hi]) h.al hq.wh.1 (fun i hi => (hq.wh.2.2 i hi).1), lentAt h.keys hq.keys.1, lentAt h.sums hq.sums.1, lentAt h.sel hq.sel.1, lentAt h.ord hq.ord.1⟩

theorem Giv_below {w w' w'' : World} {G tG tC tA tS tI tT tN tR tL : Nat} {ts : List TableD} {q : QueryV} {bc bf bk bu be bo bw bp bd : Nat} {v : Value} {A : Nat → Nat} {k1 k2 s1 i1 s2 i2 : Nat}
    (h : Giv w w' G tG tC tA tS tI tT tN tR tL ts q bc bf bk bu be bo bw bp bd v A k1 k2 s1 i1 s2 i2) (hb : Below w'.heap.size w' w'') : Giv w w'' G tG tC tA tS tI tT tN tR tL ts q bc bf bk bu be bo bw bp bd v A k1 k2 s1 i1 s2 i2 := by
  have m : ∀ {b t : Nat} {c : Array Value}, GB w' b t c → GB w'' b t c := fun g => g.of (hb.block _ g.lt)
  exact ⟨Below.step h.bel hb, h.lo, m h.g, m h.cat, m h.src, m h.keys, m h.sums, m h.sel, m h.ord, h.row.of_block (hb.block _ h.row.lt), fun i hi => m (h.al i hi),
    ownsRow_move h.own (Nat.le_refl _) (fun j _ hj => hb.block j hj), m h.h1, m h.h2, m h.plan, m h.db, m h.r1, m h.r2, m h.q1, m h.q2⟩

end Go.Proofs.Ytpkihnafdaedoaa
