import Derived.OwnWalk
import Derived.RegionTactic
import Derived.Test.YtlpbelhfpoilpaaCBase5LendBase6Base7
set_option linter.all false
namespace Go.Scout
open Go.RowKit

/-- The clauses, lent: behind 'clauses'. -/
structure CLent (w00 w0 w' : World) (G tG tC tA tS n : Nat) (gc : Value → Value → Value → Array Value) (ls : List ClauseV) (v : Value) (A : Nat → Nat) (b1 b2 : Nat) : Prop where
  bel : Below w00.heap.size w00 w'
  oth : ∀ j, j < w0.heap.size → j ≠ G → w'.heap[j]? = w0.heap[j]?
  siz : w0.heap.size < w'.heap.size
  g : GB w' G tG (gc (.slice (some ⟨w0.heap.size, 0, none⟩) n (n + 2)) (.slice (some ⟨w0.heap.size, 0, none⟩) (n + 2) (n + 2)) v)
  row : w'.rowIs w0.heap.size tC (n + 2) (fun i => if i < n then .slice (some ⟨A i, 0, none⟩) (ls.getD i lz).cs.length ((ls.getD i lz).cs.length + 2) else if i = n then .slice (some ⟨b1, 0, none⟩) 1 1 else .slice (some ⟨b2, 0, none⟩) 1 1)
  al : ∀ i, i < n → w0.heap.size < A i ∧ GB w' (A i) tS (lentConds (ls.getD i lz).cs)
  own : w'.ownsRow w0.heap.size tA 1 v n ((List.range n).map fun i => .slice (some ⟨A i, 0, none⟩) ((ls.getD i lz).cs.length + 2) ((ls.getD i lz).cs.length + 2))
  k1 : w0.heap.size < b1 ∧ GB w' b1 tS ic.toArray
  k2 : w0.heap.size < b2 ∧ GB w' b2 tS ic.toArray

theorem CState.fin {w00 w0 wr : World} {G tG tC tA tS n : Nat} {gc : Value → Value → Array Value} {gc' : Value → Value → Value → Array Value} {ls : List ClauseV} {v : Value} {A : Nat → Nat}
    (h : CState w00 w0 wr G tG tC tA tS n gc ls n v A) (hgc : ∀ x y z, (gc y z).setIfInBounds 2 x = gc' x y z) (hG : G < w0.heap.size) (hGo : w00.heap.size ≤ G) (hAC : tA ≠ tC) :
    CLent w00 w0 (((((wr.setCell ⟨w0.heap.size, n, none⟩ (.slice (some ⟨wr.heap.size, 0, none⟩) 1 1)).setCell ⟨w0.heap.size, n + 1, none⟩ (.slice (some ⟨wr.heap.size + 1, 0, none⟩) 1 1)).setCell ⟨G, 2, none⟩ (.slice (some ⟨w0.heap.size, 0, none⟩) n (n + 2))).alloc
      (.cells ic.toArray tS)).alloc (.cells ic.toArray tS)) G tG tC tA tS n gc' ls v A wr.heap.size (wr.heap.size + 1) := by
  have hs := h.siz
  have hb0 := h.bel.size
  let w1 := ((wr.setCell ⟨w0.heap.size, n, none⟩ (.slice (some ⟨wr.heap.size, 0, none⟩) 1 1)).setCell ⟨w0.heap.size, n + 1, none⟩ (.slice (some ⟨wr.heap.size + 1, 0, none⟩) 1 1)).setCell ⟨G, 2, none⟩ (.slice (some ⟨w0.heap.size, 0, none⟩) n (n + 2))
  have hw1 : w1.heap.size = wr.heap.size := by simp [w1]
  have hblk1 : ∀ j, j ≠ G → j ≠ w0.heap.size → w1.heap[j]? = wr.heap[j]? := fun j h1 h2 => by
    show (((wr.setCell ⟨w0.heap.size, n, none⟩ _).setCell ⟨w0.heap.size, n + 1, none⟩ _).setCell ⟨G, 2, none⟩ _).heap[j]? = _
    rw [heap_setCell h1, heap_setCell h2, heap_setCell h2]
  have hup : ∀ j, j < wr.heap.size → ((w1.alloc (.cells ic.toArray tS)).alloc (.cells ic.toArray tS)).heap[j]? = w1.heap[j]? := fun j hj => by
    rw [heap_alloc (by simp [hw1]; omega), heap_alloc (by omega)]
  have hblk : ∀ j, j < wr.heap.size → j ≠ G → j ≠ w0.heap.size → ((w1.alloc (.cells ic.toArray tS)).alloc (.cells ic.toArray tS)).heap[j]? = wr.heap[j]? := fun j hj h1 h2 => (hup j hj).trans (hblk1 j h1 h2)
  show CLent w00 w0 ((w1.alloc (.cells ic.toArray tS)).alloc (.cells ic.toArray tS)) G tG tC tA tS n gc' ls v A wr.heap.size (wr.heap.size + 1)
  have hbel1 : Below w00.heap.size w00 w1 := ((h.bel.setCell (p := ⟨w0.heap.size, n, none⟩) (by show w00.heap.size ≤ w0.heap.size; omega) _).setCell (p := ⟨w0.heap.size, n + 1, none⟩) (by show w00.heap.size ≤ w0.heap.size; omega) _).setCell (p := ⟨G, 2, none⟩) hGo _
  refine ⟨?_, fun j hj hne => ?_, ?_, ?_, ?_, fun i hi => ?_, ?_, ⟨by omega, ?_⟩, ⟨by omega, ?_⟩⟩
  · have b1 := hbel1.alloc hbel1.size (.cells ic.toArray tS)
    exact b1.alloc b1.size _
  · rw [hblk j (by omega) hne (by omega)]
    exact h.oth j hj hne
  · simp [hw1]; omega
  · have h1 : GB ((wr.setCell ⟨w0.heap.size, n, none⟩ (.slice (some ⟨wr.heap.size, 0, none⟩) 1 1)).setCell ⟨w0.heap.size, n + 1, none⟩ (.slice (some ⟨wr.heap.size + 1, 0, none⟩) 1 1)) G tG (gc (.slice (some ⟨w0.heap.size, 0, none⟩) (n + 2) (n + 2)) v) :=
      h.g.of (by rw [heap_setCell (by show G ≠ w0.heap.size; omega), heap_setCell (by show G ≠ w0.heap.size; omega)])
    have h2 := h1.set 2 (.slice (some ⟨w0.heap.size, 0, none⟩) n (n + 2))
    rw [hgc] at h2
    exact GB.of (w := w1) h2 (hup G (by omega))
  · have h1 := ((h.row.set n (.slice (some ⟨wr.heap.size, 0, none⟩) 1 1)).set (n + 1) (.slice (some ⟨wr.heap.size + 1, 0, none⟩) 1 1)).setOther (a := ⟨G, 2, none⟩) (by show w0.heap.size ≠ G; omega) (.slice (some ⟨w0.heap.size, 0, none⟩) n (n + 2))
    refine ((h1.alloc _).alloc _).congr fun i hi => ?_
    by_cases h3 : i < n
    · simp only [if_neg (show ¬ i = n + 1 by omega), if_neg (show ¬ i = n by omega), if_pos h3]
    · by_cases h4 : i = n
      · subst h4
        simp
      · have h5 : i = n + 1 := by omega
        subst h5
        simp
  · have hA := h.al i hi
    exact ⟨hA.1, hA.2.of (hblk _ hA.2.lt (by omega) (by omega))⟩
  · have n1 : v.ownBlock ≠ some G := fun he => by have := h.own.lt _ he; omega
    have n2 : v.ownBlock ≠ some w0.heap.size := fun he => by
      obtain ⟨c, hc, _⟩ := h.row
      rcases h.own.2 with ⟨rfl, _⟩ | ⟨g, cap, cur, rfl, _, hh, _⟩
      · simp [Value.ownBlock] at he
      · simp [Value.ownBlock] at he
        subst he
        rw [hh] at hc
        simp at hc
        exact hAC hc.2
    exact ((ownsRow_setCell_other (ownsRow_setCell_other (ownsRow_setCell_other h.own n2 _) n2 _) n1 _).alloc _).alloc _
  · show ((w1.alloc (.cells ic.toArray tS)).alloc (.cells ic.toArray tS)).heap[wr.heap.size]? = _
    rw [heap_alloc (by simp [hw1]), ← hw1, heap_alloc_new]
  · show ((w1.alloc (.cells ic.toArray tS)).alloc (.cells ic.toArray tS)).heap[wr.heap.size + 1]? = _
    have : wr.heap.size + 1 = (w1.alloc (.cells ic.toArray tS)).heap.size := by simp [hw1]
    rw [this, heap_alloc_new]

theorem CState.start {w00 w : World} {G tG tC tA tS n : Nat} {c : Array Value} {gc : Value → Value → Array Value} {ls : List ClauseV}
    (hb : Below w00.heap.size w00 w) (hGo : w00.heap.size ≤ G) (hG : GB w G tG c) (hgc : c.setIfInBounds 11 (.slice (some ⟨w.heap.size, 0, none⟩) (n + 2) (n + 2)) = gc (.slice (some ⟨w.heap.size, 0, none⟩) (n + 2) (n + 2)) (.slice none 0 0)) :
    CState w00 w ((w.setCell ⟨G, 11, none⟩ (.slice (some ⟨w.heap.size, 0, none⟩) (n + 2) (n + 2))).alloc (.cells (madeCells #[.slice none 0 0] (n + 2)) tC)) G tG tC tA tS n gc ls 0 (.slice none 0 0) (fun _ => 0) := by
  have hlt := hG.lt
  have hb1 := hb.setCell (p := ⟨G, 11, none⟩) hGo (.slice (some ⟨w.heap.size, 0, none⟩) (n + 2) (n + 2))
  refine ⟨hb1.alloc hb1.size _, fun j hj hne => ?_, by simp, ?_, ?_, fun i hi => absurd hi (by omega), World.ownsRow_nil _ _ _ _⟩
  · rw [heap_alloc (by simpa using hj), heap_setCell hne]
  · have h1 := hG.set 11 (.slice (some ⟨w.heap.size, 0, none⟩) (n + 2) (n + 2))
    rw [hgc] at h1
    exact h1.of (heap_alloc (by simpa using hlt))
  · have h1 := World.rowIs_made (w.setCell ⟨G, 11, none⟩ (.slice (some ⟨w.heap.size, 0, none⟩) (n + 2) (n + 2))) (.slice none 0 0) (n + 2) tC
    rw [World.size_setCell] at h1
    exact h1.congr fun i hi => by simp

end Go.Scout

namespace Go.Proofs.Ytlpbelhfpoilpaa
open Go.RowKit Go.Scout

theorem Try.info68 : (Try.prog.info? 68).map (fun i => (i.zero, i.size, i.bytes)) = some (some (.agg #[.slice none 0 0]), 1, 24) := by kernel_rfl
theorem Try.info46 : (Try.prog.info? 46).map (fun i => (i.zero, i.size, i.bytes)) = some (some (.agg #[.bool false, .int .i64 0, .int .i64 0, .bool false, .int .i64 0]), 5, 40) := by kernel_rfl
theorem Try.size46 : (Try.prog.info? 46).map (·.size) = some 5 := by kernel_rfl
theorem Try.info47 : (Try.prog.info? 47).map (fun i => (i.zero, i.size, i.bytes)) = some (some (.slice none 0 0), 1, 24) := by kernel_rfl

theorem makeClauses (n : Nat) (h : n * 24 ≤ 140737488351232) (w : World) :
    (Instr.makeSlice 24 (.int .i64 ((n : Int) + 2)) (.int .i64 ((n : Int) + 2))).run Try.prog w = .ok (.slice (some ⟨w.heap.size, 0, none⟩) (n + 2) (n + 2)) (w.alloc (.cells (madeCells #[.slice none 0 0] (n + 2)) 68)) := by
  obtain ⟨i, hi, hz0, hz1, hz2⟩ := info_parts Try.info68
  have := run_make (P := Try.prog) w 24 68 i _ Try.underlying24 hi hz0 .i64 .i64 ((n : Int) + 2) ((n : Int) + 2) (by omega) (Int.le_refl _) (by rw [hz2]; omega) (by omega)
  rw [hz1, show ((n : Int) + 2).toNat = n + 2 by omega] at this
  simpa [Value.cells] using this

theorem makeConds (n : Nat) (h : n * 40 ≤ 140737488351232) (w : World) :
    (Instr.makeSlice 47 (.int .i64 ((n : Int) + 2)) (.int .i64 ((n : Int) + 2))).run Try.prog w = .ok (.slice (some ⟨w.heap.size, 0, none⟩) (n + 2) (n + 2)) (w.alloc (.cells (madeCells zc.toArray ((n + 2) * 5)) 46)) := by
  obtain ⟨i, hi, hz0, hz1, hz2⟩ := info_parts Try.info46
  have := run_make (P := Try.prog) w 47 46 i _ Try.underlying47 hi hz0 .i64 .i64 ((n : Int) + 2) ((n : Int) + 2) (by omega) (Int.le_refl _) (by rw [hz2]; omega) (by omega)
  rw [hz1, show ((n : Int) + 2).toNat = n + 2 by omega] at this
  simpa [Value.cells, zc] using this

theorem copyConds (w : World) (ao : Option Addr) (cap : Nat) (cs : List CondD) (h : CondsAt w ao cs) (ty : TypeId) :
    (Builtin.copy_ #[47, 47] ty #[.slice (some ⟨w.heap.size, 0, none⟩) (cs.length + 2) (cs.length + 2), .slice ao cs.length cap]).run Try.prog (w.alloc (.cells (madeCells zc.toArray ((cs.length + 2) * 5)) 46)) =
      .ok (goInt cs.length) (w.alloc (.cells (conds1 cs) 46)) :=
  run_copy_new (P := Try.prog) w 47 46 5 zc.toArray ao cs.length cap (cs.flatMap CondD.vals) (by omega) rfl (length_flat _ 5 cvals_len cs) (conds_src h) (conds_one cs) Try.underlying47 Try.size46 ty

set_option maxRecDepth 20000 in
set_option maxHeartbeats 8000000 in
theorem clauses_any (w00 w : World) (G : Nat) (ad : Option Addr) (cap : Nat) (ls : List ClauseV) (c0 c1 c2 c3 c4 c5 c6 c7 c8 c9 c10 c11 c13 c14 c15 : Value)
    (hx : ClausesAt w00 ad ls) (hsz : ls.length * 24 ≤ 140737488351232) (hszc : ∀ i, i < ls.length → (ls.getD i lz).cs.length * 40 ≤ 140737488351232)
    (hb : Below w00.heap.size w00 w) (hG0 : w00.heap.size ≤ G) (hG : GB w G 35 #[c0, c1, c2, c3, c4, c5, c6, c7, c8, c9, c10, c11, .slice none 0 0, c13, c14, c15]) :
    Calls Try.prog 20 #[.pointer (some ⟨G, 0, none⟩), .slice ad ls.length cap] w fun e w' => e = .returned (.tuple #[]) ∧ ∃ v A b1 b2, CLent w00 w w' G 35 68 47 46 ls.length (fun x y z => #[c0, c1, x, c3, c4, c5, c6, c7, c8, c9, c10, y, z, c13, c14, c15]) ls v A b1 b2 := by
  have hmk := makeClauses ls.length hsz
  have hl := hx.1
  have hGlt := hG.lt
  have g11 : w.cell? ⟨G, 11, none⟩ = some c11 := hG.cell 11
  have f11 : w.frozen? ⟨G, 11, none⟩ = false := hG.frozen 11
  go_enter Try.func20, Try.ntmps20
  go_wp2
  obtain ⟨i0, hi, hz0, hz1, hz2⟩ := info_parts Try.info47
  go_loopw [5] (fun i wr => ∃ (k : Nat) (v : Value) (A : Nat → Nat), k ≤ ls.length ∧ i = .int .i64 k ∧ CState w00 w wr G 35 68 47 46 ls.length (fun x y => #[c0, c1, c2, c3, c4, c5, c6, c7, c8, c9, c10, x, y, c13, c14, c15]) ls k v A) (fun i _ => ls.length - (intOf i).toNat)
  case atStart => exact ⟨0, _, _, Nat.zero_le _, rfl, CState.start hb hG0 hG rfl⟩
  case round =>
    obtain ⟨k, v, A, hk, rfl, h⟩ := hrel
    by_cases hlt : k < ls.length
    · obtain ⟨b, off, rfl, hc⟩ := hx.2.1.get hlt
      have hck := cell_below h.bel (hc k hlt)
      have hcd := (hx.2.2 k hlt).below h.bel
      have hszk := hszc k hlt
      generalize hge : ls.getD k lz = cl at *
      have HGE : Hid (ls.getD k lz = cl) := hge
      clear hge hc
      obtain ⟨adk, cpk, cs⟩ := cl
      unfold ClauseV.val at hck
      simp only at hck hcd hszk
      have hmk2 := makeConds cs.length hszk
      have hcp := fun ty => copyConds wr adk cpk cs hcd ty
      have hs1 := setCell_conds1 wr cs 46
      have hs2 := setCell_conds2 wr cs 46
      have ha1 := conds1_at cs
      have ha2 := conds2_at cs
      have hcl := hcd.1
      have hGw : G < wr.heap.size := h.g.lt
      have hbw : b < wr.heap.size := lt_of_cell hck
      have g11 : wr.cell? ⟨G, 11, none⟩ = some (.slice (some ⟨w.heap.size, 0, none⟩) (ls.length + 2) (ls.length + 2)) := h.g.cell 11
      have g12 : wr.cell? ⟨G, 12, none⟩ = some v := h.g.cell 12
      clear f11 hmk
      go_wp2_with (first | (at_builtin; refine wpList_append_own _ rfl (.tmp 50) (.tmp 52) 33 rfl w.heap.size 47 i0 (.slice none 0 0) 1 24 Try.underlying33 hi hz0 hz1 hz2 rfl (by decide) _ _ _ rfl ((h.own.alloc _).alloc _) ⟨wr.heap.size + 1, 0, none⟩ 1 1 [.slice (some ⟨wr.heap.size, 0, none⟩) (cs.length + 2) (cs.length + 2)] rfl rfl ?q1 ?q2 ?q3 ?q4 ?q5 ?_))
      case q1 =>
        intro j u hj
        match j, hj with
        | 0, hj => simp at hj; subst hj; simp [Addr.add]
      case q2 => intro u hu; simp at hu; subst hu; rfl
      case q3 => unfold maxLen; omega
      case q4 => omega
      case q5 => have := h.siz; simp; omega
      intro v' w1 hown1 hgrow1 _
      have M := h.mid (by decide) (by decide) hGlt hG0 hown1 (by simp) hgrow1
      obtain ⟨g, cap', hv'⟩ := M.sh
      have m11 : w1.cell? ⟨G, 11, none⟩ = some (.slice (some ⟨w.heap.size, 0, none⟩) (ls.length + 2) (ls.length + 2)) := M.g.cell 11
      have m12 : w1.cell? ⟨G, 12, none⟩ = some v := M.g.cell 12
      have n12 : w1.frozen? ⟨G, 12, none⟩ = false := M.g.frozen 12
      have mk : w1.cell? ⟨w.heap.size, k, none⟩ = some (.slice none 0 0) := by rw [M.row.cell (by omega), if_neg (by omega)]
      have nk : w1.frozen? ⟨w.heap.size, k, none⟩ = false := M.row.frozen k
      have hGW : ¬ w.heap.size = G := by omega
      have hGW' : ¬ G = w.heap.size := by omega
      rw [hv']
      clear hmk2 hcp hs1 hs2 ha1 ha2 g11 g12 hck
      go_wp2
      go_region
      go_wp2
      go_roundw
      case rel =>
        have N := M.next (tA := 47) (fun _ _ _ => rfl) hGlt hG0 (by rw [HGE.out]) (by decide) (by decide) (by decide) hown1
        rw [hv'] at N
        exact ⟨k + 1, _, _, by omega, by go_num, N⟩
      case measure => simp [intOf]; omega
    · have hkk : k = ls.length := by omega
      have hGw : G < wr.heap.size := h.g.lt
      have hWw := h.siz
      have g11 : wr.cell? ⟨G, 11, none⟩ = some (.slice (some ⟨w.heap.size, 0, none⟩) (ls.length + 2) (ls.length + 2)) := h.g.cell 11
      have g2 : wr.cell? ⟨G, 2, none⟩ = some c2 := h.g.cell 2
      have e2 : wr.frozen? ⟨G, 2, none⟩ = false := h.g.frozen 2
      have mk : wr.cell? ⟨w.heap.size, ls.length, none⟩ = some (.slice none 0 0) := by rw [h.row.cell (by omega), if_neg (by omega)]
      have nk : wr.frozen? ⟨w.heap.size, ls.length, none⟩ = false := h.row.frozen _
      have mk1 : wr.cell? ⟨w.heap.size, ls.length + 1, none⟩ = some (.slice none 0 0) := by rw [h.row.cell (by omega), if_neg (by omega)]
      have nk1 : wr.frozen? ⟨w.heap.size, ls.length + 1, none⟩ = false := h.row.frozen _
      have hGW : ¬ w.heap.size = G := by omega
      have hGW' : ¬ G = w.heap.size := by omega
      clear hx hsz hszc hmk
      go_wp2
      go_end0
      subst hkk
      exact ⟨rfl, _, _, _, _, h.fin (fun _ _ _ => rfl) hGlt hG0 (by decide)⟩

end Go.Proofs.Ytlpbelhfpoilpaa

namespace Go.Proofs.Ytlpbelhfpoilpaa
open Go.RowKit Go.Scout

theorem Try.info53 : (Try.prog.info? 53).map (fun i => (i.zero, i.size, i.bytes)) = some (some (.slice none 0 0), 1, 24) := by kernel_rfl

structure T0 (w00 w0 w' : World) (G tG tR tI tS : Nat) (c : Array Value) (s1 i1 s2 i2 : Nat) : Prop where
  bel : Below w00.heap.size w00 w'
  oth : ∀ j, j < w0.heap.size → j ≠ G → w'.heap[j]? = w0.heap[j]?
  siz : w0.heap.size < w'.heap.size
  g : GB w' G tG c
  row : GB w' w0.heap.size tR #[.slice (some ⟨s1, 0, none⟩) 1 1, .slice (some ⟨s2, 0, none⟩) 1 1]
  r1 : GB w' s1 tI #[.slice (some ⟨i1, 0, none⟩) 1 1]
  r2 : GB w' s2 tI #[.slice (some ⟨i2, 0, none⟩) 1 1]
  q1 : GB w' i1 tS #[.int .i64 77777]
  q2 : GB w' i2 tS #[.int .i64 77777]

theorem cell4 (y : World) (o1 o2 o3 o4 : Obj) (b i : Nat) (h : b < y.heap.size) : ((((y.alloc o1).alloc o2).alloc o3).alloc o4).cell? ⟨b, i, none⟩ = y.cell? ⟨b, i, none⟩ := by
  have h1 := below_alloc y o1
  have h2 := Below.step h1 (below_alloc _ o2)
  have h3 := Below.step h2 (below_alloc _ o3)
  have h4 := Below.step h3 (below_alloc _ o4)
  exact h4.cell (p := ⟨b, i, none⟩) h
theorem frozen4 (y : World) (o1 o2 o3 o4 : Obj) (b i : Nat) (h : b < y.heap.size) : ((((y.alloc o1).alloc o2).alloc o3).alloc o4).frozen? ⟨b, i, none⟩ = y.frozen? ⟨b, i, none⟩ := by
  have h1 := below_alloc y o1
  have h2 := Below.step h1 (below_alloc _ o2)
  have h3 := Below.step h2 (below_alloc _ o3)
  have h4 := Below.step h3 (below_alloc _ o4)
  exact h4.frozen (p := ⟨b, i, none⟩) h

theorem heap4 (y : World) (o1 o2 o3 o4 : Obj) (b : Nat) (h : b < y.heap.size) : ((((y.alloc o1).alloc o2).alloc o3).alloc o4).heap[b]? = y.heap[b]? := by
  have h1 := below_alloc y o1
  have h2 := Below.step h1 (below_alloc _ o2)
  have h3 := Below.step h2 (below_alloc _ o3)
  have h4 := Below.step h3 (below_alloc _ o4)
  exact h4.block b h
theorem heap4_new (y : World) (o1 o2 o3 o4 : Obj) (n : Nat) (h : n = y.heap.size) : ((((y.alloc o1).alloc o2).alloc o3).alloc o4).heap[n]? = some o1 ∧ ((((y.alloc o1).alloc o2).alloc o3).alloc o4).heap[n + 1]? = some o2 ∧
    ((((y.alloc o1).alloc o2).alloc o3).alloc o4).heap[n + 2]? = some o3 ∧ ((((y.alloc o1).alloc o2).alloc o3).alloc o4).heap[n + 3]? = some o4 := by
  subst h
  refine ⟨?_, ?_, ?_, ?_⟩
  · rw [heap_alloc (by simp only [World.size_alloc]; omega), heap_alloc (by simp only [World.size_alloc]; omega), heap_alloc (by simp only [World.size_alloc]; omega), heap_alloc_new]
  · rw [heap_alloc (by simp only [World.size_alloc]; omega), heap_alloc (by simp only [World.size_alloc]; omega), show y.heap.size + 1 = (y.alloc o1).heap.size by simp, heap_alloc_new]
  · rw [heap_alloc (by simp only [World.size_alloc]; omega), show y.heap.size + 2 = ((y.alloc o1).alloc o2).heap.size by simp, heap_alloc_new]
  · rw [show y.heap.size + 3 = (((y.alloc o1).alloc o2).alloc o3).heap.size by simp, heap_alloc_new]

theorem T0.mk' {w00 w0 wr : World} {G tG tR tI tS : Nat} {c : Array Value} (hG0 : w00.heap.size ≤ G) (hGlt : G < w0.heap.size) (hbr : Below w00.heap.size w00 wr) (hoth : ∀ j, j < w0.heap.size → j ≠ G → wr.heap[j]? = w0.heap[j]?)
    (hsz : w0.heap.size < wr.heap.size) (hg : GB wr G tG c) (hrow : GB wr w0.heap.size tR #[.slice none 0 0, .slice none 0 0]) :
    T0 w00 w0 (((((((wr.setCell ⟨w0.heap.size, 0, none⟩ (.slice (some ⟨wr.heap.size + 1, 0, none⟩) 1 1)).alloc (.cells #[.int .i64 77777] tS)).alloc (.cells #[.slice (some ⟨wr.heap.size, 0, none⟩) 1 1] tI)).alloc (.cells #[.int .i64 77777] tS)).alloc
      (.cells #[.slice (some ⟨wr.heap.size + 1 + 1, 0, none⟩) 1 1] tI)).setCell ⟨w0.heap.size, 1, none⟩ (.slice (some ⟨wr.heap.size + 1 + 1 + 1, 0, none⟩) 1 1)).setCell ⟨G, 9, none⟩ (.slice (some ⟨w0.heap.size, 0, none⟩) 0 2))
      G tG tR tI tS (c.setIfInBounds 9 (.slice (some ⟨w0.heap.size, 0, none⟩) 0 2)) (wr.heap.size + 1) wr.heap.size (wr.heap.size + 3) (wr.heap.size + 2) := by
  have hb0 := hbr.size
  let y1 := wr.setCell ⟨w0.heap.size, 0, none⟩ (.slice (some ⟨wr.heap.size + 1, 0, none⟩) 1 1)
  have hy1 : y1.heap.size = wr.heap.size := by simp [y1]
  let y2 := (((y1.alloc (.cells #[.int .i64 77777] tS)).alloc (.cells #[.slice (some ⟨wr.heap.size, 0, none⟩) 1 1] tI)).alloc (.cells #[.int .i64 77777] tS)).alloc (.cells #[.slice (some ⟨wr.heap.size + 1 + 1, 0, none⟩) 1 1] tI)
  have hy2 : y2.heap.size = wr.heap.size + 4 := by simp [y2, hy1]
  show T0 w00 w0 ((y2.setCell ⟨w0.heap.size, 1, none⟩ (.slice (some ⟨wr.heap.size + 1 + 1 + 1, 0, none⟩) 1 1)).setCell ⟨G, 9, none⟩ (.slice (some ⟨w0.heap.size, 0, none⟩) 0 2)) G tG tR tI tS _ _ _ _ _
  have hold : ∀ j, j < wr.heap.size → y2.heap[j]? = y1.heap[j]? := fun j hj => heap4 y1 _ _ _ _ j (by omega)
  have hnew := heap4_new y1 (.cells #[.int .i64 77777] tS) (.cells #[.slice (some ⟨wr.heap.size, 0, none⟩) 1 1] tI) (.cells #[.int .i64 77777] tS) (.cells #[.slice (some ⟨wr.heap.size + 1 + 1, 0, none⟩) 1 1] tI) wr.heap.size hy1.symm
  have hup : ∀ j, j ≠ G → j ≠ w0.heap.size → ((y2.setCell ⟨w0.heap.size, 1, none⟩ (.slice (some ⟨wr.heap.size + 1 + 1 + 1, 0, none⟩) 1 1)).setCell ⟨G, 9, none⟩ (.slice (some ⟨w0.heap.size, 0, none⟩) 0 2)).heap[j]? = y2.heap[j]? := fun j h1 h2 => by
    rw [heap_setCell h1, heap_setCell h2]
  have hblk : ∀ j, j < wr.heap.size → j ≠ G → j ≠ w0.heap.size → ((y2.setCell ⟨w0.heap.size, 1, none⟩ (.slice (some ⟨wr.heap.size + 1 + 1 + 1, 0, none⟩) 1 1)).setCell ⟨G, 9, none⟩ (.slice (some ⟨w0.heap.size, 0, none⟩) 0 2)).heap[j]? = wr.heap[j]? := fun j hj h1 h2 => by
    rw [hup j h1 h2, hold j hj]
    exact heap_setCell h2
  have hb1 : Below w00.heap.size w00 y1 := hbr.setCell (p := ⟨w0.heap.size, 0, none⟩) (by show w00.heap.size ≤ w0.heap.size; omega) _
  have hb2 : Below w00.heap.size w00 y2 := by
    have a1 := hb1.alloc hb1.size (.cells #[.int .i64 77777] tS)
    have a2 := a1.alloc a1.size (.cells #[.slice (some ⟨wr.heap.size, 0, none⟩) 1 1] tI)
    have a3 := a2.alloc a2.size (.cells #[.int .i64 77777] tS)
    exact a3.alloc a3.size _
  refine ⟨(hb2.setCell (p := ⟨w0.heap.size, 1, none⟩) (by show w00.heap.size ≤ w0.heap.size; omega) _).setCell (p := ⟨G, 9, none⟩) hG0 _, fun j hj hne => ?_, ?_, ?_, ?_, ?_, ?_, ?_, ?_⟩
  · rw [hblk j (by omega) hne (by omega)]
    exact hoth j hj hne
  · simp [hy2]; omega
  · have h1 : GB y2 G tG c := hg.of ((hold G (by omega)).trans (heap_setCell (by show G ≠ w0.heap.size; omega)))
    have h2 : GB (y2.setCell ⟨w0.heap.size, 1, none⟩ (.slice (some ⟨wr.heap.size + 1 + 1 + 1, 0, none⟩) 1 1)) G tG c := h1.of (heap_setCell (by show G ≠ w0.heap.size; omega))
    exact h2.set 9 _
  · have h1 : GB y1 w0.heap.size tR _ := hrow.set 0 (.slice (some ⟨wr.heap.size + 1, 0, none⟩) 1 1)
    have h2 : GB y2 w0.heap.size tR _ := h1.of (hold _ hsz)
    have h3 := h2.set 1 (.slice (some ⟨wr.heap.size + 1 + 1 + 1, 0, none⟩) 1 1)
    exact h3.of (heap_setCell (by show w0.heap.size ≠ G; omega))
  · exact GB.of (w := y2) hnew.2.1 (hup _ (by omega) (by omega))
  · exact GB.of (w := y2) hnew.2.2.2 (hup _ (by omega) (by omega))
  · exact GB.of (w := y2) hnew.1 (hup _ (by omega) (by omega))
  · exact GB.of (w := y2) hnew.2.2.1 (hup _ (by omega) (by omega))

set_option maxRecDepth 20000 in
set_option maxHeartbeats 8000000 in
theorem tables0_any (w00 w : World) (G : Nat) (c0 c1 c2 c3 c4 c5 c6 c7 c8 c9 c10 c11 c12 c13 c14 c15 : Value) (hb : Below w00.heap.size w00 w) (hG0 : w00.heap.size ≤ G)
    (hG : GB w G 35 #[c0, c1, c2, c3, c4, c5, c6, c7, c8, c9, c10, c11, c12, c13, c14, c15]) :
    Calls Try.prog 21 #[.pointer (some ⟨G, 0, none⟩), .slice none 0 0] w fun e w' => e = .returned (.tuple #[]) ∧ ∃ s1 i1 s2 i2, T0 w00 w w' G 35 53 23 3
      #[c0, c1, c2, c3, c4, c5, c6, c7, c8, .slice (some ⟨w.heap.size, 0, none⟩) 0 2, c10, c11, c12, c13, .slice (some ⟨w.heap.size, 0, none⟩) 2 2, c15] s1 i1 s2 i2 := by
  have hmk := run_make_row' (P := Try.prog) 32 53 (.slice none 0 0) 24 Try.underlying32 Try.info53 rfl .i64 .i64 2 (by omega) (by omega)
  have hGlt := hG.lt
  have g14 : w.cell? ⟨G, 14, none⟩ = some c14 := hG.cell 14
  have f14 : w.frozen? ⟨G, 14, none⟩ = false := hG.frozen 14
  have hmc : madeCells #[Value.slice none 0 0] 2 = #[Value.slice none 0 0, Value.slice none 0 0] := by rw [madeCells_one]; rfl
  rw [hmc] at hmk
  simp only [Int.cast_ofNat_Int] at hmk
  go_enter Try.func21, Try.ntmps21
  go_wp2
  go_loopw [5] (fun i wr => i = .int .i64 0 ∧ Below w00.heap.size w00 wr ∧ (∀ j, j < w.heap.size → j ≠ G → wr.heap[j]? = w.heap[j]?) ∧ w.heap.size < wr.heap.size ∧
    GB wr G 35 #[c0, c1, c2, c3, c4, c5, c6, c7, c8, c9, c10, c11, c12, c13, .slice (some ⟨w.heap.size, 0, none⟩) 2 2, c15] ∧ GB wr w.heap.size 53 #[.slice none 0 0, .slice none 0 0]) (fun _ _ => 0)
  case atStart =>
    have hb1 := hb.setCell (p := ⟨G, 14, none⟩) hG0 (.slice (some ⟨w.heap.size, 0, none⟩) 2 2)
    refine ⟨rfl, hb1.alloc hb1.size _, fun j hj hne => ?_, by simp, ?_, ?_⟩
    · rw [heap_alloc (by simpa using hj), heap_setCell hne]
    · exact (hG.set 14 (.slice (some ⟨w.heap.size, 0, none⟩) 2 2)).of (heap_alloc (by simpa using hGlt))
    · have := heap_alloc_new (w.setCell ⟨G, 14, none⟩ (.slice (some ⟨w.heap.size, 0, none⟩) 2 2)) (.cells #[.slice none 0 0, .slice none 0 0] 53)
      rw [World.size_setCell] at this
      exact this
  case round =>
    obtain ⟨rfl, hbr, hoth, hsz, hg, hrow⟩ := hrel
    have h14 : wr.cell? ⟨G, 14, none⟩ = some (.slice (some ⟨w.heap.size, 0, none⟩) 2 2) := hg.cell 14
    have h9 : wr.cell? ⟨G, 9, none⟩ = some c9 := hg.cell 9
    have f9 : wr.frozen? ⟨G, 9, none⟩ = false := hg.frozen 9
    have r0 : wr.cell? ⟨w.heap.size, 0, none⟩ = some (.slice none 0 0) := hrow.cell 0
    have r1 : wr.cell? ⟨w.heap.size, 1, none⟩ = some (.slice none 0 0) := hrow.cell 1
    have e0 : wr.frozen? ⟨w.heap.size, 0, none⟩ = false := hrow.frozen 0
    have e1 : wr.frozen? ⟨w.heap.size, 1, none⟩ = false := hrow.frozen 1
    have hGW : ¬ w.heap.size = G := by omega
    have hGW' : ¬ G = w.heap.size := by omega
    have hGr : G < wr.heap.size := by omega
    clear g14 f14
    have hc4 := cell4
    have hf4 := frozen4
    go_wp2
    go_end0
    refine ⟨rfl, wr.heap.size + 1, wr.heap.size, wr.heap.size + 3, wr.heap.size + 2, ?_⟩
    exact T0.mk' hG0 hGlt hbr hoth hsz hg hrow

end Go.Proofs.Ytlpbelhfpoilpaa

namespace Go.Scout
open Go.RowKit

/-- While the struct is filled: the struct's cells, and the blocks that were made beside it. -/
structure Pre (w w2 : World) (G tG : Nat) (c : Array Value) (bs : List (Nat × Obj)) : Prop where
  bel : Below w.heap.size w w2
  lo : w.heap.size ≤ G
  g : GB w2 G tG c
  bs : ∀ p, p ∈ bs → p.1 ≠ G ∧ w.heap.size ≤ p.1 ∧ w2.heap[p.1]? = some p.2

theorem Pre.store {w w2 : World} {G tG : Nat} {c : Array Value} {bs : List (Nat × Obj)} (h : Pre w w2 G tG c bs) (i : Nat) (v : Value) : Pre w (w2.setCell ⟨G, i, none⟩ v) G tG (c.setIfInBounds i v) bs :=
  ⟨h.bel.setCell (p := ⟨G, i, none⟩) h.lo v, h.lo, h.g.set i v, fun p hp => ⟨(h.bs p hp).1, (h.bs p hp).2.1, (heap_setCell (h.bs p hp).1).trans (h.bs p hp).2.2⟩⟩

theorem Pre.alloc {w w2 : World} {G tG : Nat} {c : Array Value} {bs : List (Nat × Obj)} (h : Pre w w2 G tG c bs) (o : Obj) : Pre w (w2.alloc o) G tG c ((w2.heap.size, o) :: bs) := by
  have hG := h.g.lt
  refine ⟨h.bel.alloc h.bel.size o, h.lo, h.g.of (heap_alloc hG), fun p hp => ?_⟩
  rcases List.mem_cons.1 hp with rfl | hp
  · exact ⟨by show w2.heap.size ≠ G; omega, h.bel.size, heap_alloc_new w2 o⟩
  · have hb := h.bs p hp
    exact ⟨hb.1, hb.2.1, (heap_alloc (Array.getElem?_eq_some_iff.1 hb.2.2).1).trans hb.2.2⟩

theorem Pre.move {w w2 w3 : World} {G tG : Nat} {c c' : Array Value} {bs : List (Nat × Obj)} (h : Pre w w2 G tG c bs) (hb : Below w.heap.size w w3) (ho : ∀ j, j < w2.heap.size → j ≠ G → w3.heap[j]? = w2.heap[j]?) (hg : GB w3 G tG c') : Pre w w3 G tG c' bs :=
  ⟨hb, h.lo, hg, fun p hp => ⟨(h.bs p hp).1, (h.bs p hp).2.1, (ho p.1 (Array.getElem?_eq_some_iff.1 (h.bs p hp).2.2).1 (h.bs p hp).1).trans (h.bs p hp).2.2⟩⟩

theorem Pre.drop {w w2 : World} {G tG : Nat} {c : Array Value} {bs bs' : List (Nat × Obj)} (h : Pre w w2 G tG c bs) (hs : ∀ p, p ∈ bs' → p ∈ bs) : Pre w w2 G tG c bs' := ⟨h.bel, h.lo, h.g, fun p hp => h.bs p (hs p hp)⟩

theorem Pre.at {w w2 : World} {G tG : Nat} {c : Array Value} {bs : List (Nat × Obj)} (h : Pre w w2 G tG c bs) {b t : Nat} {d : Array Value} (hm : (b, Obj.cells d t (0, 0)) ∈ bs) : GB w2 b t d := (h.bs _ hm).2.2

theorem Pre.start (w : World) (o : Obj) (c : Array Value) (tG : Nat) (k : Obj) : Pre w (((w.alloc o).alloc (.cells c tG)).alloc k) (w.heap.size + 1) tG c [(w.heap.size + 2, k), (w.heap.size, o)] := by
  have e1 : (w.alloc o).heap.size = w.heap.size + 1 := by simp
  have h0 : Pre w ((w.alloc o).alloc (.cells c tG)) (w.heap.size + 1) tG c [(w.heap.size, o)] := by
    refine ⟨Below.step (below_alloc _ _) (below_alloc _ _), by omega, ?_, fun p hp => ?_⟩
    · show ((w.alloc o).alloc (.cells c tG)).heap[w.heap.size + 1]? = _
      rw [← e1, heap_alloc_new]
    · rw [List.mem_singleton] at hp
      subst hp
      exact ⟨by show w.heap.size ≠ w.heap.size + 1; omega, Nat.le_refl _, (heap_alloc (by omega)).trans (heap_alloc_new w o)⟩
  have h1 := h0.alloc k
  have e2 : ((w.alloc o).alloc (.cells c tG)).heap.size = w.heap.size + 2 := by simp
  rw [e2] at h1
  exact h1

theorem ownsRow_move {w w' : World} {base base' : Nat} {e : TypeId} {size : Nat} {v : Value} {n : Nat} {xs : List Value} (h : w.ownsRow base e size v n xs) (hb : base' ≤ base) (ho : ∀ j, base ≤ j → j < w.heap.size → w'.heap[j]? = w.heap[j]?) : w'.ownsRow base' e size v n xs := by
  obtain ⟨h1, h2⟩ := h
  refine ⟨h1, ?_⟩
  rcases h2 with h2 | ⟨g, cap, cur, hv, hg, hh, r⟩
  · exact Or.inl h2
  · exact Or.inr ⟨g, cap, cur, hv, Nat.le_trans hb hg, (ho g hg (Array.getElem?_eq_some_iff.1 hh).1).trans hh, r⟩

def zn : List Value := [.int .i64 0, .int .i64 0, .int .i64 0, .int .i64 0, .slice none 0 0, .int .i64 0, .slice none 0 0]
def nk : List Value := [.int .i64 77777, .int .i64 0, .int .i64 0, .int .i64 0, .slice none 0 0, .int .i64 0, .slice none 0 0]

/-- What was handed over (no plan, no database), in lists of its own: the struct at block G, and all the blocks. -/
structure Giv (w w' : World) (G tG tC tA tS tI tT tN tR tL : Nat) (ts : List TableD) (q : QueryV) (bc bf bk bu be bo bw bp bd : Nat) (v : Value) (A : Nat → Nat) (k1 k2 s1 i1 s2 i2 : Nat) : Prop where
  bel : Below w.heap.size w w'
  lo : w.heap.size ≤ G
  g : GB w' G tG #[.slice (some ⟨bc, 0, none⟩) ts.length (ts.length + 2), .slice (some ⟨bf, 0, none⟩) q.src.xs.length (q.src.xs.length + 2), .slice (some ⟨bw, 0, none⟩) q.wh.length (q.wh.length + 2), .bool q.group,
    .slice (some ⟨bk, 0, none⟩) q.keys.xs.length (q.keys.xs.length + 2), .slice (some ⟨bu, 0, none⟩) q.sums.xs.length (q.sums.xs.length + 2), .slice (some ⟨be, 0, none⟩) q.sel.xs.length (q.sel.xs.length + 2), .slice (some ⟨bo, 0, none⟩) q.ord.xs.length (q.ord.xs.length + 2),
    .slice (some ⟨bp, 0, none⟩) 0 2, .slice (some ⟨bd, 0, none⟩) 0 2, .slice (some ⟨bc, 0, none⟩) (ts.length + 2) (ts.length + 2), .slice (some ⟨bw, 0, none⟩) (q.wh.length + 2) (q.wh.length + 2), v, .slice (some ⟨bp, 0, none⟩) 2 2, .slice (some ⟨bd, 0, none⟩) 2 2, .slice none 0 0]
  cat : GB w' bc tT (lentTabs ts)
  src : GB w' bf tI (lentCells q.src.xs)
  keys : GB w' bk tI (lentCells q.keys.xs)
  sums : GB w' bu tI (lentCells q.sums.xs)
  sel : GB w' be tI (lentCells q.sel.xs)
  ord : GB w' bo tI (lentCells q.ord.xs)
  row : w'.rowIs bw tC (q.wh.length + 2) (fun i => if i < q.wh.length then .slice (some ⟨A i, 0, none⟩) (q.wh.getD i lz).cs.length ((q.wh.getD i lz).cs.length + 2) else if i = q.wh.length then .slice (some ⟨k1, 0, none⟩) 1 1 else .slice (some ⟨k2, 0, none⟩) 1 1)
  al : ∀ i, i < q.wh.length → GB w' (A i) tS (lentConds (q.wh.getD i lz).cs)
  own : w'.ownsRow w.heap.size tA 1 v q.wh.length ((List.range q.wh.length).map fun i => .slice (some ⟨A i, 0, none⟩) ((q.wh.getD i lz).cs.length + 2) ((q.wh.getD i lz).cs.length + 2))
  h1 : GB w' k1 tS ic.toArray
  h2 : GB w' k2 tS ic.toArray
  plan : GB w' bp tN (nk ++ nk).toArray
  db : GB w' bd tR #[.slice (some ⟨s1, 0, none⟩) 1 1, .slice (some ⟨s2, 0, none⟩) 1 1]
  r1 : GB w' s1 tL #[.slice (some ⟨i1, 0, none⟩) 1 1]
  r2 : GB w' s2 tL #[.slice (some ⟨i2, 0, none⟩) 1 1]
  q1 : GB w' i1 tI #[.int .i64 77777]
  q2 : GB w' i2 tI #[.int .i64 77777]

end Go.Scout

