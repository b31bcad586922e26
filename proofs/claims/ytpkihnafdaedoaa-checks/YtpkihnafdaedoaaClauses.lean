import Derived.Test.YtpkihnafdaedoaaLend
import Derived.Test.YtpkihnafdaedoaaBase8
import Derived.OwnWalk
import Derived.RegionTactic
namespace Go.Proofs.Ytpkihnafdaedoaa
open Go.RowKit Go.Scout

theorem Try.info68 : (Try.prog.info? 68).map (fun i => (i.zero, i.size, i.bytes)) = some (some (.agg #[.slice none 0 0]), 1, 24) := by kernel_rfl
theorem Try.info46 : (Try.prog.info? 46).map (fun i => (i.zero, i.size, i.bytes)) = some (some (.agg #[.bool false, .int .i64 0, .int .i64 0, .bool false, .int .i64 0]), 5, 40) := by kernel_rfl
theorem Try.size46 : (Try.prog.info? 46).map (·.size) = some 5 := by kernel_rfl
theorem Try.info47 : (Try.prog.info? 47).map (fun i => (i.zero, i.size, i.bytes)) = some (some (.slice none 0 0), 1, 24) := by kernel_rfl

theorem makeClauses (n : Nat) (h : n * 24 ≤ 140737488351232) (w : World) :
    (Instr.makeSlice 24 (.int .i64 ((n : Int) + 2)) (.int .i64 ((n : Int) + 2))).run Try.prog w = .ok (.slice (some ⟨w.heap.size, 0, none⟩) (n + 2) (n + 2)) (w.alloc (.cells (madeCells #[.slice none 0 0] (n + 2)) 68)) := by
  obtain ⟨i, hi, hz0, hz1, hz2⟩ := info_parts Try.info68
  have := run_make (P := Try.prog) w 24 68 i _ Try.underlying24 hi hz0 .i64 .i64 ((n : Int) + 2) ((n : Int) + 2) (by omega) (Int.le_refl _) (by rw [hz2]; omega) (by omega)
  rw [hz1, show ((n : Int) + 2).toNat = n + 2 by omega] at this
  simpa [Value.cells] using this

theorem makeConds (n : Nat) (h : n * 40 ≤ 140737488351232) (w : World) :
    (Instr.makeSlice 47 (.int .i64 ((n : Int) + 2)) (.int .i64 ((n : Int) + 2))).run Try.prog w = .ok (.slice (some ⟨w.heap.size, 0, none⟩) (n + 2) (n + 2)) (w.alloc (.cells (madeCells zc.toArray ((n + 2) * 5)) 46)) := by
  obtain ⟨i, hi, hz0, hz1, hz2⟩ := info_parts Try.info46
  have := run_make (P := Try.prog) w 47 46 i _ Try.underlying47 hi hz0 .i64 .i64 ((n : Int) + 2) ((n : Int) + 2) (by omega) (Int.le_refl _) (by rw [hz2]; omega) (by omega)
  rw [hz1, show ((n : Int) + 2).toNat = n + 2 by omega] at this
  simpa [Value.cells, zc] using this

theorem copyConds (w : World) (ao : Option Addr) (cap : Nat) (cs : List CondD) (h : CondsAt w ao cs) (ty : TypeId) :
    (Builtin.copy_ #[47, 47] ty #[.slice (some ⟨w.heap.size, 0, none⟩) (cs.length + 2) (cs.length + 2), .slice ao cs.length cap]).run Try.prog (w.alloc (.cells (madeCells zc.toArray ((cs.length + 2) * 5)) 46)) =
      .ok (goInt cs.length) (w.alloc (.cells (conds1 cs) 46)) :=
  run_copy_new (P := Try.prog) w 47 46 5 zc.toArray ao cs.length cap (cs.flatMap CondD.vals) (by omega) rfl (length_flat _ 5 cvals_len cs) (conds_src h) (conds_one cs) Try.underlying47 Try.size46 ty

set_option maxRecDepth 20000 in
set_option maxHeartbeats 8000000 in
theorem clauses_any (w00 w : World) (G : Nat) (ad : Option Addr) (cap : Nat) (ls : List ClauseV) (c0 c1 c2 c3 c4 c5 c6 c7 c8 c9 c10 c11 c13 c14 c15 : Value)
    (hx : ClausesAt w00 ad ls) (hsz : ls.length * 24 ≤ 140737488351232) (hszc : ∀ i, i < ls.length → (ls.getD i lz).cs.length * 40 ≤ 140737488351232)
    (hb : Below w00.heap.size w00 w) (hG0 : w00.heap.size ≤ G) (hG : GB w G 35 #[c0, c1, c2, c3, c4, c5, c6, c7, c8, c9, c10, c11, .slice none 0 0, c13, c14, c15]) :
    Calls Try.prog 20 #[.pointer (some ⟨G, 0, none⟩), .slice ad ls.length cap] w fun e w' => e = .returned (.tuple #[]) ∧ ∃ v A b1 b2, CLent w00 w w' G 35 68 47 46 ls.length (fun x y z => #[c0, c1, x, c3, c4, c5, c6, c7, c8, c9, c10, y, z, c13, c14, c15]) ls v A b1 b2 := by
  have hmk := makeClauses ls.length hsz
  have hl := hx.1
  have hGlt := hG.lt
  have g11 : w.cell? ⟨G, 11, none⟩ = some c11 := hG.cell 11
  have f11 : w.frozen? ⟨G, 11, none⟩ = false := hG.frozen 11
  go_enter Try.func20, Try.ntmps20
  go_wp2
  obtain ⟨i0, hi, hz0, hz1, hz2⟩ := info_parts Try.info47
  go_loopw [5] (fun i wr => ∃ (k : Nat) (v : Value) (A : Nat → Nat), k ≤ ls.length ∧ i = .int .i64 k ∧ CState w00 w wr G 35 68 47 46 ls.length (fun x y => #[c0, c1, c2, c3, c4, c5, c6, c7, c8, c9, c10, x, y, c13, c14, c15]) ls k v A) (fun i _ => ls.length - (intOf i).toNat)
  case atStart => exact ⟨0, _, _, Nat.zero_le _, rfl, CState.start hb hG0 hG rfl⟩
  case round =>
    obtain ⟨k, v, A, hk, rfl, h⟩ := hrel
    by_cases hlt : k < ls.length
    · obtain ⟨b, off, rfl, hc⟩ := hx.2.1.get hlt
      have hck := cell_below h.bel (hc k hlt)
      have hcd := (hx.2.2 k hlt).below h.bel
      have hszk := hszc k hlt
      generalize hge : ls.getD k lz = cl at *
      have HGE : Hid (ls.getD k lz = cl) := hge
      clear hge hc
      obtain ⟨adk, cpk, cs⟩ := cl
      unfold ClauseV.val at hck
      simp only at hck hcd hszk
      have hmk2 := makeConds cs.length hszk
      have hcp := fun ty => copyConds wr adk cpk cs hcd ty
      have hs1 := setCell_conds1 wr cs 46
      have hs2 := setCell_conds2 wr cs 46
      have ha1 := conds1_at cs
      have ha2 := conds2_at cs
      have hcl := hcd.1
      have hGw : G < wr.heap.size := h.g.lt
      have hbw : b < wr.heap.size := lt_of_cell hck
      have g11 : wr.cell? ⟨G, 11, none⟩ = some (.slice (some ⟨w.heap.size, 0, none⟩) (ls.length + 2) (ls.length + 2)) := h.g.cell 11
      have g12 : wr.cell? ⟨G, 12, none⟩ = some v := h.g.cell 12
      clear f11 hmk
      go_wp2_with (first | (at_builtin; refine wpList_append_own _ rfl (.tmp 50) (.tmp 52) 33 rfl w.heap.size 47 i0 (.slice none 0 0) 1 24 Try.underlying33 hi hz0 hz1 hz2 rfl (by decide) _ _ _ rfl ((h.own.alloc _).alloc _) ⟨wr.heap.size + 1, 0, none⟩ 1 1 [.slice (some ⟨wr.heap.size, 0, none⟩) (cs.length + 2) (cs.length + 2)] rfl rfl ?q1 ?q2 ?q3 ?q4 ?q5 ?_))
      case q1 =>
        intro j u hj
        match j, hj with
        | 0, hj => simp at hj; subst hj; simp [Addr.add]
      case q2 => intro u hu; simp at hu; subst hu; rfl
      case q3 => unfold maxLen; omega
      case q4 => omega
      case q5 => have := h.siz; simp; omega
      intro v' w1 hown1 hgrow1 _
      have M := h.mid (by decide) (by decide) hGlt hG0 hown1 (by simp) hgrow1
      obtain ⟨g, cap', hv'⟩ := M.sh
      have m11 : w1.cell? ⟨G, 11, none⟩ = some (.slice (some ⟨w.heap.size, 0, none⟩) (ls.length + 2) (ls.length + 2)) := M.g.cell 11
      have m12 : w1.cell? ⟨G, 12, none⟩ = some v := M.g.cell 12
      have n12 : w1.frozen? ⟨G, 12, none⟩ = false := M.g.frozen 12
      have mk : w1.cell? ⟨w.heap.size, k, none⟩ = some (.slice none 0 0) := by rw [M.row.cell (by omega), if_neg (by omega)]
      have nk : w1.frozen? ⟨w.heap.size, k, none⟩ = false := M.row.frozen k
      have hGW : ¬ w.heap.size = G := by omega
      have hGW' : ¬ G = w.heap.size := by omega
      rw [hv']
      clear hmk2 hcp hs1 hs2 ha1 ha2 g11 g12 hck
      go_wp2
      go_region
      go_wp2
      go_roundw
      case rel =>
        have N := M.next (tA := 47) (fun _ _ _ => rfl) hGlt hG0 (by rw [HGE.out]) (by decide) (by decide) (by decide) hown1
        rw [hv'] at N
        exact ⟨k + 1, _, _, by omega, by go_num, N⟩
      case measure => simp [intOf]; omega
    · have hkk : k = ls.length := by omega
      have hGw : G < wr.heap.size := h.g.lt
      have hWw := h.siz
      have g11 : wr.cell? ⟨G, 11, none⟩ = some (.slice (some ⟨w.heap.size, 0, none⟩) (ls.length + 2) (ls.length + 2)) := h.g.cell 11
      have g2 : wr.cell? ⟨G, 2, none⟩ = some c2 := h.g.cell 2
      have e2 : wr.frozen? ⟨G, 2, none⟩ = false := h.g.frozen 2
      have mk : wr.cell? ⟨w.heap.size, ls.length, none⟩ = some (.slice none 0 0) := by rw [h.row.cell (by omega), if_neg (by omega)]
      have nk : wr.frozen? ⟨w.heap.size, ls.length, none⟩ = false := h.row.frozen _
      have mk1 : wr.cell? ⟨w.heap.size, ls.length + 1, none⟩ = some (.slice none 0 0) := by rw [h.row.cell (by omega), if_neg (by omega)]
      have nk1 : wr.frozen? ⟨w.heap.size, ls.length + 1, none⟩ = false := h.row.frozen _
      have hGW : ¬ w.heap.size = G := by omega
      have hGW' : ¬ G = w.heap.size := by omega
      clear hx hsz hszc hmk
      go_wp2
      go_end0
      subst hkk
      exact ⟨rfl, _, _, _, _, h.fin (fun _ _ _ => rfl) hGlt hG0 (by decide)⟩

end Go.Proofs.Ytpkihnafdaedoaa
