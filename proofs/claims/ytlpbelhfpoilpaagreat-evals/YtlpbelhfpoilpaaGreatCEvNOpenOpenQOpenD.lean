import Derived.Test.YtlpbelhfpoilpaaGreatProg
import Derived.ProofKit
import Derived.OpenShut
import Derived.Deep.Slices
import Derived.SizedLaws
import Derived.Test.YtlpbelhfpoilpaaGreatCRLawBaseBase2Base3
import Derived.Test.YtlpbelhfpoilpaaGreatCBaseRItAItBItC
import Derived.Test.YtlpbelhfpoilpaaGreatCBkDEvLEvM
set_option linter.all false
namespace Go.Proofs.YtlpbelhfpoilpaaGreat
open Go.RowKit Go.Scout

set_option maxRecDepth 20000 in
set_option maxHeartbeats 16000000 in
theorem evals_any (ao d : Option Addr) (cap dcap : Nat) (ts : List TableD) (q : QueryV) (db : List RowsV) (w : World) (hx : TablesAt w ao ts) (hq : q.At w) (hd : DbAt w d db)
    (hsz : ts.length * 48 ≤ 140737488351232) (z1 : q.src.xs.length * 8 ≤ 140737488351232) (z2 : q.keys.xs.length * 8 ≤ 140737488351232) (z3 : q.sums.xs.length * 8 ≤ 140737488351232) (z4 : q.sel.xs.length * 8 ≤ 140737488351232) (z5 : q.ord.xs.length * 8 ≤ 140737488351232)
    (z6 : q.wh.length * 24 ≤ 140737488351232) (z7 : ∀ i, i < q.wh.length → (q.wh.getD i lz).cs.length * 40 ≤ 140737488351232)
    (y1 : db.length * 24 ≤ 140737488351232) (y2 : ∀ i, i < db.length → (db.getD i rz).rs.length * 24 ≤ 140737488351232) (y3 : ∀ i, i < db.length → ∀ j, j < (db.getD i rz).rs.length → ((db.getD i rz).rs.getD j iz).xs.length * 8 ≤ 140737488351232) :
    Calls Tryz.prog 3 #[.slice ao ts.length cap, .agg q.cells, .slice d db.length dcap] w fun e w' => e = .returned (.bool true) ∧ Below w.heap.size w w' := by
  have hb1 := below_alloc w (.cells q.cells 26)
  obtain ⟨W1, hW1⟩ : ∃ W1, w.alloc (.cells q.cells 26) = W1 := ⟨_, rfl⟩
  have hs1 : W1.heap.size = w.heap.size + 1 := by rw [← hW1]; simp
  have hX1 : W1.cell? ⟨w.heap.size, 0, none⟩ = some q.src.val ∧ W1.cell? ⟨w.heap.size, 1, none⟩ = some (.slice q.wad q.wh.length q.wcap) ∧ W1.cell? ⟨w.heap.size, 2, none⟩ = some (.bool q.group) ∧ W1.cell? ⟨w.heap.size, 3, none⟩ = some q.keys.val ∧ W1.cell? ⟨w.heap.size, 4, none⟩ = some q.sums.val ∧ W1.cell? ⟨w.heap.size, 5, none⟩ = some q.sel.val ∧ W1.cell? ⟨w.heap.size, 6, none⟩ = some q.ord.val := by
    rw [← hW1]; unfold QueryV.cells; refine ⟨?_, ?_, ?_, ?_, ?_, ?_, ?_⟩ <;> simp
  rw [hW1] at hb1
  have hb2 := below_alloc W1 (.cells #[.int .i64 0, .slice none 0 0, .slice none 0 0, .slice none 0 0, .slice none 0 0] 32)
  obtain ⟨W2, hW2⟩ : ∃ W2, W1.alloc (.cells #[.int .i64 0, .slice none 0 0, .slice none 0 0, .slice none 0 0, .slice none 0 0] 32) = W2 := ⟨_, rfl⟩
  have hG : GB W2 W1.heap.size 32 #[.int .i64 0, .slice none 0 0, .slice none 0 0, .slice none 0 0, .slice none 0 0] := by rw [← hW2]; exact GB.alloc _ _ _
  rw [hW2] at hb2
  have hbw2 : Below w.heap.size w W2 := Below.step hb1 hb2
  have hB : BookAt W2 W1.heap.size 32 23 3 0 [] [] (.slice none 0 0) (.slice none 0 0) := ⟨hG, World.ownsRow_nil _ _ _ _, World.ownsRow_nil _ _ _ _, rfl, fun k hk => absurd hk (by simp), fun e he => by cases he⟩
  have hbb : ∀ b, BookAt.own W1.heap.size [] (.slice none 0 0) (.slice none 0 0) b → W1.heap.size ≤ b := by
    rintro b (rfl | h | h | ⟨e, he, -⟩)
    · exact Nat.le_refl _
    · cases h
    · cases h
    · cases he
  have HLO : Hid (∀ x, Below W1.heap.size W2 x → TablesAt x ao ts ∧ q.At x ∧ DbAt x d db) := fun x hb => by
    have h : Below w.heap.size w x := Below.trans hbw2 (hb.mono hb1.size)
    exact ⟨hx.below h, hq.below h, hd.below h⟩
  have he1 := evalB_any W1.heap.size 0 [] [] (.slice none 0 0) (.slice none 0 0) ao d cap dcap ts q db W2 hB (by omega) (by simp) hbb (HLO.out _ (Below.refl _ _)).1 (HLO.out _ (Below.refl _ _)).2.1 (HLO.out _ (Below.refl _ _)).2.2 HLO.out hsz z1 z2 z3 z4 z5 z6 z7 y1 y2 y3
  have HE2 : Hid (∀ n es ms vi vm x, Below W1.heap.size W2 x → BookAt x W1.heap.size 32 23 3 n es ms vi vm → n ≤ 30000 → es.length ≤ 200000 → (∀ b, BookAt.own W1.heap.size es vi vm b → W1.heap.size ≤ b) → _) :=
    fun n es ms vi vm x hb hB hn hes hbb => evalB_any W1.heap.size n es ms vi vm ao d cap dcap ts q db x hB hn hes hbb (HLO.out _ hb).1 (HLO.out _ hb).2.1 (HLO.out _ hb).2.2 (fun y hy => HLO.out y (Below.trans hb hy)) hsz z1 z2 z3 z4 z5 z6 z7 y1 y2 y3
  have HX : Hid (∀ x, Below W1.heap.size W2 x → x.cell? ⟨w.heap.size, 0, none⟩ = some q.src.val ∧ x.cell? ⟨w.heap.size, 1, none⟩ = some (.slice q.wad q.wh.length q.wcap) ∧ x.cell? ⟨w.heap.size, 2, none⟩ = some (.bool q.group) ∧ x.cell? ⟨w.heap.size, 3, none⟩ = some q.keys.val ∧ x.cell? ⟨w.heap.size, 4, none⟩ = some q.sums.val ∧ x.cell? ⟨w.heap.size, 5, none⟩ = some q.sel.val ∧ x.cell? ⟨w.heap.size, 6, none⟩ = some q.ord.val) := fun x hb => by
    have e : ∀ j, x.cell? ⟨w.heap.size, j, none⟩ = W1.cell? ⟨w.heap.size, j, none⟩ := fun j => World.cell?_of_block (a := ⟨w.heap.size, j, none⟩) ((hb.block _ (by show w.heap.size < _; omega)).trans (hb2.block _ (by show w.heap.size < _; omega)))
    simp only [e]
    exact hX1
  have HB2 : Hid _ := hbw2
  have HB1 : Hid _ := hb1
  have HS2 : Hid (W1.heap.size ≤ W2.heap.size) := hb2.size
  have HW1 : Hid _ := hW1
  have HW2 : Hid _ := hW2
  clear hx hq hd hsz z1 z2 z3 z4 z5 z6 z7 y1 y2 y3 hX1 hbw2 hb1 hb2 hW1 hW2 hG hB hbb hs1
  obtain ⟨bb, hbb⟩ : ∃ bb, bb = W1.heap.size := ⟨_, rfl⟩
  have HBB : Hid _ := hbb
  rw [← hbb] at he1 HE2 HX HLO
  clear hbb
  unfold QueryV.cells IntsV.val at he1 HE2 HW1
  unfold IntsV.val at HX
  unfold QueryV.cells IntsV.val
  go_enter Tryz.func3, Tryz.ntmps3
  obtain ⟨c0, c1, c2, c3, c4, c5, c6⟩ := HX.out W2 (Below.refl _ _)
  go_upto_region 1 with fail
  rw [HW1.out]
  go_upto_region 2 with fail
  rw [HW2.out, ← HBB.out]
  go_wp2_with fail
  refine Calls.mono he1 ?_
  rintro e w3 ⟨rfl, n3, es3, ms3, vi3, vm3, hB3, hn3, hl3, ho3, hb3⟩
  clear he1 c0 c1 c2 c3 c4 c5 c6
  have he2 := HE2.out n3 es3 ms3 vi3 vm3 w3 hb3 hB3 (by omega) (by simp at hl3; omega) ho3
  obtain ⟨d0, d1, d2, d3, d4, d5, d6⟩ := HX.out w3 hb3
  clear hB3 ho3
  go_wp2_with fail
  refine Calls.mono he2 ?_
  rintro e w4 ⟨rfl, n4, es4, ms4, vi4, vm4, hB4, hn4, hl4, ho4, hb4⟩
  clear he2 d0 d1 d2 d3 d4 d5 d6
  have hho := holdsB_any bb n4 es4 ms4 vi4 vm4 w4 hB4 (by simp at hl3; omega)
  clear hB4 ho4
  go_wp2_with fail
  refine Calls.mono hho ?_
  rintro e w5 ⟨rfl, hb5⟩
  clear hho
  have hfin : Below w.heap.size w w5 := by
    have h1 : Below bb W2 w5 := Below.trans (Below.trans hb3 hb4) (hb5.mono (by have := hb3.size; have := hb4.size; have := HS2.out; have := HBB.out; omega))
    exact HB2.out.trans (h1.mono (by have := HB1.out.size; have := HBB.out; omega))
  have HF : Hid _ := hfin
  clear hfin hb3 hb4 hb5
  go_wp2
  go_ret
  exact ⟨rfl, HF.out⟩

end Go.Proofs.YtlpbelhfpoilpaaGreat

namespace Go.Proofs.YtlpbelhfpoilpaaGreat
open Go.RowKit Go.Scout Go.Deep Go.ChangeShapes Go.WideShapes Go.ChangeAt

theorem Tryz.cells3 : Tryz.prog.cellsOf 3 = 1 := by kernel_rfl
theorem Tryz.cells4 : Tryz.prog.cellsOf 4 = 1 := by kernel_rfl
theorem Tryz.cells23 : Tryz.prog.cellsOf 23 = 1 := by kernel_rfl
theorem Tryz.cells74 : Tryz.prog.cellsOf 74 = 1 := by kernel_rfl
theorem Tryz.cells24 : Tryz.prog.cellsOf 24 = 1 := by kernel_rfl
theorem Tryz.cells76 : Tryz.prog.cellsOf 76 = 1 := by kernel_rfl
theorem Tryz.cells52 : Tryz.prog.cellsOf 52 = 4 := by kernel_rfl
theorem Tryz.cells54 : Tryz.prog.cellsOf 54 = 6 := by kernel_rfl
theorem Tryz.cells78 : Tryz.prog.cellsOf 78 = 5 := by kernel_rfl
theorem Tryz.cells26 : Tryz.prog.cellsOf 26 = 7 := by kernel_rfl
theorem Tryz.bytes3 : Tryz.prog.bytesOf 3 = 8 := by kernel_rfl
theorem Tryz.bytes54 : Tryz.prog.bytesOf 54 = 48 := by kernel_rfl
theorem Tryz.bytes78 : Tryz.prog.bytesOf 78 = 40 := by kernel_rfl
theorem Tryz.bytes76 : Tryz.prog.bytesOf 76 = 24 := by kernel_rfl

variable {H : Type} {enc : TypeId × Value → H} {w : World} {spare : Nat → Bool} {held : Bool} {fuel : Nat}

theorem addr_none {a : Addr} {v : Value} (h : w.cell? (a.add 0) = some v) : ∃ b off, a = ⟨b, off, none⟩ := by
  obtain ⟨b, off, spot⟩ := a
  have hs : spot = none := by
    have := World.cell?_spot h
    simpa [Addr.add] using this
  subst hs
  exact ⟨b, off, rfl⟩

theorem addr_add' (b off j : Nat) : (⟨b, off, none⟩ : Addr).add j = ⟨b, off + j, none⟩ := by unfold Addr.add; split <;> simp_all

theorem openInts {v : Value} {x : DataW H × List MemPlace} (h : DataW.trod enc Tryz.prog w 0 spare held fuel 23 [v] = some x) (hw : ∀ n ∈ x.1.weights Tryz.prog 23, n ≤ reachBytes) :
    ∃ iv : IntsV, v = iv.val ∧ iv.At w ∧ iv.xs.length * 8 ≤ 140737488351232 := by
  rcases open_ints Tryz.underlying23 Tryz.underlying3 Tryz.cells3 h with ⟨hcs, _⟩ | ⟨a, len, cap, zs, hcs, _, hl, hm, hz, hx, hcell, _⟩
  · simp at hcs
    subst hcs
    exact ⟨⟨none, 0, []⟩, rfl, ⟨by simp, fun i hi => absurd hi (by simp)⟩, by simp⟩
  · simp at hcs
    subst hcs
    have hlz : len ≤ zs.length := by rw [hz]; split <;> omega
    have hlen : (zs.take len).length = len := by rw [List.length_take]; omega
    have hb : len * 8 ≤ 140737488351232 := by
      have h2 := hw (((lits IntKind.i64 (zs.take len) : List (DataW H)).length + (lits IntKind.i64 (zs.drop len) : List (DataW H)).length) * Tryz.prog.bytesOf 3) (by rw [hx]; simp [DataW.weights, Tryz.underlying23])
      rw [Tryz.bytes3] at h2
      simp only [lits, List.length_map, List.length_take, List.length_drop, reachBytes] at h2
      omega
    refine ⟨⟨some a, cap, zs.take len⟩, ?_, ⟨by show (zs.take len).length ≤ _; omega, fun i hi => ?_⟩, ?_⟩
    · show _ = Value.slice (some a) (zs.take len).length cap
      rw [hlen]
    · have hi' : i < len := by
        have : i < (zs.take len).length := hi
        omega
      have hc := hcell i (by omega)
      obtain ⟨b, off, rfl⟩ := addr_none (hcell 0 (by omega))
      refine ⟨b, off, rfl, ?_⟩
      rw [addr_add'] at hc
      rw [hc]
      simp [List.getD, hi']
    · show (zs.take len).length * 8 ≤ _
      omega

theorem list3 {α : Type} {l : List α} (h : l.length = 3) : ∃ a b c, l = [a, b, c] := by
  match l, h with
  | [a, b, c], _ => exact ⟨a, b, c, rfl⟩
theorem list4 {α : Type} {l : List α} (h : l.length = 4) : ∃ a b c d, l = [a, b, c, d] := by
  match l, h with
  | [a, b, c, d], _ => exact ⟨a, b, c, d, rfl⟩
theorem list5 {α : Type} {l : List α} (h : l.length = 5) : ∃ a b c d e, l = [a, b, c, d, e] := by
  match l, h with
  | [a, b, c, d, e], _ => exact ⟨a, b, c, d, e, rfl⟩
theorem list6 {α : Type} {l : List α} (h : l.length = 6) : ∃ a b c d e f, l = [a, b, c, d, e, f] := by
  match l, h with
  | [a, b, c, d, e, f], _ => exact ⟨a, b, c, d, e, f, rfl⟩
theorem list7 {α : Type} {l : List α} (h : l.length = 7) : ∃ a b c d e f g, l = [a, b, c, d, e, f, g] := by
  match l, h with
  | [a, b, c, d, e, f, g], _ => exact ⟨a, b, c, d, e, f, g, rfl⟩

theorem getD_range {α : Type} (f : Nat → α) (n i : Nat) (z : α) (h : i < n) : ((List.range n).map f).getD i z = f i := by simp [List.getD, h]

theorem openTables {v : Value} {x : DataW H × List MemPlace} (h : DataW.trod enc Tryz.prog w 0 spare held fuel 22 [v] = some x) (hw : ∀ n ∈ x.1.weights Tryz.prog 22, n ≤ reachBytes) :
    ∃ ao cap ts, v = .slice ao (List.length ts) cap ∧ TablesAt w ao ts ∧ ts.length * 48 ≤ 140737488351232 := by
  rcases open_slice Tryz.underlying22 h with ⟨hcs, _⟩ | ⟨a, len, cap, m, n, D, Pl, hcs, _, hl, hm, hmm, hx, hel⟩
  · simp at hcs
    subst hcs
    exact ⟨none, 0, [], rfl, ⟨by simp, fun i hi => absurd hi (by simp)⟩, by simp⟩
  · simp at hcs
    subst hcs
    have hlm : len ≤ m := by rw [hmm]; split <;> omega
    have hb : len * 48 ≤ 140737488351232 := by
      have h2 := hw ((((List.range len).map D).length + ((List.range (m - len)).map fun j => D (len + j)).length) * Tryz.prog.bytesOf 54) (by rw [hx]; simp [DataW.weights, Tryz.underlying22])
      rw [Tryz.bytes54] at h2
      simp only [List.length_map, List.length_range, reachBytes] at h2
      omega
    have each : ∀ i, i < len → ∃ t : TableD, w.cell? ((a.add (i * 6)).add 0) = some (.int .i64 t.cols) ∧ w.cell? ((a.add (i * 6)).add 1) = some (.int .i64 t.rows) ∧ w.cell? ((a.add (i * 6)).add 2) = some (.int .i64 t.k0) ∧
        w.cell? ((a.add (i * 6)).add 3) = some (.int .i64 t.k1) ∧ w.cell? ((a.add (i * 6)).add 4) = some (.int .i64 t.k2) ∧ w.cell? ((a.add (i * 6)).add 5) = some (.int .i64 t.k3) := by
      intro i hi
      obtain ⟨cs', h1, h2⟩ := hel i (by omega)
      rw [Tryz.cells54] at h1
      obtain ⟨_, hlen, hcell⟩ := World.cells?_some h1
      obtain ⟨xs, k, hk, hxy, _, hxl, hf⟩ := DataW.trod_struct Tryz.underlying54 h2
      obtain ⟨y0, y1, y2, rfl⟩ := list3 hxl
      obtain ⟨v0, v1, v2, v3, v4, v5, rfl⟩ := list6 hlen
      · skip
        have q0 := hf 0 _ rfl
        have q1 := hf 1 _ rfl
        have q2 := hf 2 _ rfl
        simp [Tryz.cells3, Tryz.cells52] at q0 q1 q2
        obtain ⟨n0, e0, _, _⟩ := DataW.trod_int Tryz.underlying3 q0
        obtain ⟨n1, e1, _, _⟩ := DataW.trod_int Tryz.underlying3 q1
        obtain ⟨zs, k2, _, _, _, hzl, hz⟩ := DataW.trod_array Tryz.underlying52 q2
        obtain ⟨z0, z1, z2, z3, rfl⟩ := list4 hzl
        · skip
          have r0 := hz 0 (by omega)
          have r1 := hz 1 (by omega)
          have r2 := hz 2 (by omega)
          have r3 := hz 3 (by omega)
          simp [Tryz.cells3] at r0 r1 r2 r3
          obtain ⟨n2, e2, _, _⟩ := DataW.trod_int Tryz.underlying3 r0
          obtain ⟨n3, e3, _, _⟩ := DataW.trod_int Tryz.underlying3 r1
          obtain ⟨n4, e4, _, _⟩ := DataW.trod_int Tryz.underlying3 r2
          obtain ⟨n5, e5, _, _⟩ := DataW.trod_int Tryz.underlying3 r3
          simp at e0 e1 e2 e3 e4 e5
          subst e0 e1 e2 e3 e4 e5
          exact ⟨⟨n0, n1, n2, n3, n4, n5⟩, hcell 0 (by omega), hcell 1 (by omega), hcell 2 (by omega), hcell 3 (by omega), hcell 4 (by omega), hcell 5 (by omega)⟩
    haveI : Inhabited TableD := ⟨tz⟩
    obtain ⟨T, hT⟩ := choose_lt (α := TableD) each
    have hlen : ((List.range len).map T).length = len := by simp
    refine ⟨some a, cap, (List.range len).map T, by rw [hlen], ⟨by omega, fun i hi => ?_⟩, by omega⟩
    have hi' : i < len := by omega
    have h0 := (hT 0 (by omega)).1
    have ha : ∃ b off, a = ⟨b, off, none⟩ := by
      rw [Nat.zero_mul] at h0
      have e : (a.add 0).add 0 = a.add 0 := by simp [Addr.add]
      rw [e] at h0
      exact addr_none h0
    obtain ⟨b, off, rfl⟩ := ha
    have ht := hT i hi'
    simp only [addr_add', Nat.add_zero] at ht
    rw [getD_range T len i tz hi']
    exact ⟨b, off, rfl, ht⟩

theorem openConds {v : Value} {x : DataW H × List MemPlace} (h : DataW.trod enc Tryz.prog w 0 spare held fuel 74 [v] = some x) (hw : ∀ n ∈ x.1.weights Tryz.prog 74, n ≤ reachBytes) :
    ∃ c : ClauseV, v = c.val ∧ CondsAt w c.ad c.cs ∧ c.cs.length * 40 ≤ 140737488351232 := by
  rcases open_slice Tryz.underlying74 h with ⟨hcs, _⟩ | ⟨a, len, cap, m, n, D, Pl, hcs, _, hl, hm, hmm, hx, hel⟩
  · simp at hcs
    subst hcs
    exact ⟨⟨none, 0, []⟩, rfl, ⟨by simp, fun i hi => absurd hi (by simp)⟩, by simp⟩
  · simp at hcs
    subst hcs
    have hlm : len ≤ m := by rw [hmm]; split <;> omega
    have hb : len * 40 ≤ 140737488351232 := by
      have h2 := hw ((((List.range len).map D).length + ((List.range (m - len)).map fun j => D (len + j)).length) * Tryz.prog.bytesOf 78) (by rw [hx]; simp [DataW.weights, Tryz.underlying74])
      rw [Tryz.bytes78] at h2
      simp only [List.length_map, List.length_range, reachBytes] at h2
      omega
    have each : ∀ i, i < len → ∃ t : CondD, w.cell? ((a.add (i * 5)).add 0) = some (.bool t.not) ∧ w.cell? ((a.add (i * 5)).add 1) = some (.int .i64 t.op) ∧ w.cell? ((a.add (i * 5)).add 2) = some (.int .i64 t.left) ∧
        w.cell? ((a.add (i * 5)).add 3) = some (.bool t.const) ∧ w.cell? ((a.add (i * 5)).add 4) = some (.int .i64 t.right) := by
      intro i hi
      obtain ⟨cs', h1, h2⟩ := hel i (by omega)
      rw [Tryz.cells78] at h1
      obtain ⟨_, hlen, hcell⟩ := World.cells?_some h1
      obtain ⟨xs, k, hk, hxy, _, hxl, hf⟩ := DataW.trod_struct Tryz.underlying78 h2
      obtain ⟨y0, y1, y2, y3, y4, rfl⟩ := list5 hxl
      obtain ⟨v0, v1, v2, v3, v4, rfl⟩ := list5 hlen
      · skip
        have q0 := hf 0 _ rfl
        have q1 := hf 1 _ rfl
        have q2 := hf 2 _ rfl
        have q3 := hf 3 _ rfl
        have q4 := hf 4 _ rfl
        simp [Tryz.cells3, Tryz.cells4] at q0 q1 q2 q3 q4
        obtain ⟨n0, e0, _⟩ := DataW.trod_bool Tryz.underlying4 q0
        obtain ⟨n1, e1, _, _⟩ := DataW.trod_int Tryz.underlying3 q1
        obtain ⟨n2, e2, _, _⟩ := DataW.trod_int Tryz.underlying3 q2
        obtain ⟨n3, e3, _⟩ := DataW.trod_bool Tryz.underlying4 q3
        obtain ⟨n4, e4, _, _⟩ := DataW.trod_int Tryz.underlying3 q4
        simp at e0 e1 e2 e3 e4
        subst e0 e1 e2 e3 e4
        exact ⟨⟨n0, n1, n2, n3, n4⟩, hcell 0 (by omega), hcell 1 (by omega), hcell 2 (by omega), hcell 3 (by omega), hcell 4 (by omega)⟩
    haveI : Inhabited CondD := ⟨cz⟩
    obtain ⟨T, hT⟩ := choose_lt (α := CondD) each
    have hlen : ((List.range len).map T).length = len := by simp
    refine ⟨⟨some a, cap, (List.range len).map T⟩, by show _ = Value.slice _ ((List.range len).map T).length _; rw [hlen], ⟨by show ((List.range len).map T).length ≤ _; omega, fun i hi => ?_⟩, by show ((List.range len).map T).length * 40 ≤ _; omega⟩
    have hi' : i < len := by
      have : i < ((List.range len).map T).length := hi
      omega
    have h0 := (hT 0 (by omega)).1
    have ha : ∃ b off, a = ⟨b, off, none⟩ := by
      rw [Nat.zero_mul] at h0
      have e : (a.add 0).add 0 = a.add 0 := by simp [Addr.add]
      rw [e] at h0
      exact addr_none h0
    obtain ⟨b, off, rfl⟩ := ha
    have ht := hT i hi'
    simp only [addr_add', Nat.add_zero] at ht
    show ∃ b' off', _ ∧ _
    rw [getD_range T len i cz hi']
    exact ⟨b, off, rfl, ht⟩

end Go.Proofs.YtlpbelhfpoilpaaGreat

namespace Go.Proofs.YtlpbelhfpoilpaaGreat
open Go.RowKit Go.Scout Go.Deep Go.ChangeShapes Go.WideShapes Go.ChangeAt

variable {H : Type} {enc : TypeId × Value → H} {w : World} {spare : Nat → Bool} {held : Bool} {fuel : Nat}

theorem weightsAll_mem {P : Program} {e : TypeId} {d : DataW H} {n : Nat} (hn : n ∈ d.weights P e) : ∀ {ds : List (DataW H)}, d ∈ ds → n ∈ DataW.weightsAll P e ds
  | [], h => absurd h (by simp)
  | x :: r, h => by
    rw [DataW.weightsAll]
    rcases List.mem_cons.1 h with rfl | h'
    · exact List.mem_append_left _ hn
    · exact List.mem_append_right _ (weightsAll_mem hn h')

theorem openClauses {v : Value} {x : DataW H × List MemPlace} (h : DataW.trod enc Tryz.prog w 0 spare held fuel 24 [v] = some x) (hw : ∀ n ∈ x.1.weights Tryz.prog 24, n ≤ reachBytes) :
    ∃ ao cap ls, v = .slice ao (List.length ls) cap ∧ ClausesAt w ao ls ∧ ls.length * 24 ≤ 140737488351232 ∧ ∀ i, i < ls.length → (ls.getD i lz).cs.length * 40 ≤ 140737488351232 := by
  rcases open_slice1 Tryz.underlying24 Tryz.cells76 h with ⟨hcs, _⟩ | ⟨a, len, cap, m, n, V, D, Pl, hcs, _, hl, hm, hmm, hx, hel⟩
  · simp at hcs
    subst hcs
    exact ⟨none, 0, [], rfl, ⟨by simp, fun i hi => absurd hi (by simp), fun i hi => absurd hi (by simp)⟩, by simp, fun i hi => absurd hi (by simp)⟩
  · simp at hcs
    subst hcs
    have hlm : len ≤ m := by rw [hmm]; split <;> omega
    have hb : len * 24 ≤ 140737488351232 := by
      have h2 := hw ((((List.range len).map D).length + ((List.range (m - len)).map fun j => D (len + j)).length) * Tryz.prog.bytesOf 76) (by rw [hx]; simp [DataW.weights, Tryz.underlying24])
      rw [Tryz.bytes76] at h2
      simp only [List.length_map, List.length_range, reachBytes] at h2
      omega
    have each : ∀ i, i < len → ∃ c : ClauseV, w.cell? (a.add i) = some c.val ∧ CondsAt w c.ad c.cs ∧ c.cs.length * 40 ≤ 140737488351232 := by
      intro i hi
      obtain ⟨h1, h2⟩ := hel i (by omega)
      obtain ⟨xs, k, hk, hxy, _, hxl, hf⟩ := DataW.trod_struct Tryz.underlying76 h2
      have hx1 : xs.length = 1 := hxl
      obtain ⟨y0, rfl⟩ := List.length_eq_one_iff.1 hx1
      have q0 := hf 0 _ rfl
      simp [Tryz.cells74] at q0
      obtain ⟨c, hc, hcd, hcl⟩ := openConds q0 (fun nn hnn => by
        refine hw nn ?_
        rw [hx]
        have hD : D i = .agg [y0.1] := by
          have := congrArg Prod.fst hxy
          simpa using this
        have hmem : nn ∈ (D i).weights Tryz.prog 76 := by
          rw [hD]
          simp [DataW.weights, Tryz.underlying76, DataW.weightsEach, hnn]
        have hall := weightsAll_mem hmem (ds := (List.range len).map D) (List.mem_map.2 ⟨i, List.mem_range.2 hi, rfl⟩)
        simp only [DataW.weights, Tryz.underlying24]
        exact List.mem_cons_of_mem _ (List.mem_append_left _ hall))
      exact ⟨c, by rw [← hc]; exact h1, hcd, hcl⟩
    haveI : Inhabited ClauseV := ⟨lz⟩
    obtain ⟨T, hT⟩ := choose_lt (α := ClauseV) each
    have hlen : ((List.range len).map T).length = len := by simp
    refine ⟨some a, cap, (List.range len).map T, by rw [hlen], ⟨by omega, fun i hi => ?_, fun i hi => ?_⟩, by omega, fun i hi => ?_⟩
    · have hi' : i < len := by omega
      obtain ⟨b, off, rfl⟩ := addr_none (hT 0 (by omega)).1
      have ht := (hT i hi').1
      rw [addr_add'] at ht
      refine ⟨b, off, rfl, ?_⟩
      show _ = some (((List.range len).map T).getD i lz).val
      rw [getD_range T len i lz hi']
      exact ht
    · have hi' : i < len := by omega
      rw [getD_range T len i lz hi']
      exact (hT i hi').2.1
    · have hi' : i < len := by omega
      rw [getD_range T len i lz hi']
      exact (hT i hi').2.2

set_option maxRecDepth 100000 in
theorem openQuery {r : Reach} {b0 : Nat} {v : Value} {d : DataW H} {p : List MemPlace} (hv : Value.okWide Tryz.prog w r b0 26 v) (h : DataW.Trod enc Tryz.prog w 0 spare held 26 v d p) (hw : ∀ n ∈ d.weights Tryz.prog 26, n ≤ reachBytes) :
    ∃ q : QueryV, v = .agg q.cells ∧ q.At w ∧ q.src.xs.length * 8 ≤ 140737488351232 ∧ q.keys.xs.length * 8 ≤ 140737488351232 ∧ q.sums.xs.length * 8 ≤ 140737488351232 ∧ q.sel.xs.length * 8 ≤ 140737488351232 ∧ q.ord.xs.length * 8 ≤ 140737488351232 ∧
      q.wh.length * 24 ≤ 140737488351232 ∧ ∀ i, i < q.wh.length → (q.wh.getD i lz).cs.length * 40 ≤ 140737488351232 := by
  obtain ⟨cs, rfl, hsz⟩ := okWide_struct Tryz.underlying26 hv
  rw [Tryz.cells26] at hsz
  obtain ⟨fuel, hf⟩ := h
  obtain ⟨cl, rfl⟩ : ∃ l : List Value, cs = l.toArray := ⟨cs.toList, by simp⟩
  obtain ⟨v0, v1, v2, v3, v4, v5, v6, rfl⟩ := list7 (by simpa using hsz)
  obtain ⟨xs, k, hk, hxy, _, hxl, hff⟩ := DataW.trod_struct Tryz.underlying26 hf
  obtain ⟨y0, y1, y2, y3, y4, y5, y6, rfl⟩ := list7 hxl
  have q0 := hff 0 _ rfl
  have q1 := hff 1 _ rfl
  have q2 := hff 2 _ rfl
  have q3 := hff 3 _ rfl
  have q4 := hff 4 _ rfl
  have q5 := hff 5 _ rfl
  have q6 := hff 6 _ rfl
  simp [Value.cells, Tryz.cells23, Tryz.cells24, Tryz.cells4] at q0 q1 q2 q3 q4 q5 q6
  have hd : d = .agg [y0.1, y1.1, y2.1, y3.1, y4.1, y5.1, y6.1] := by
    have := congrArg Prod.fst hxy
    simpa using this
  have hwe : ∀ n, n ∈ DataW.weightsEach Tryz.prog [23, 24, 4, 23, 23, 23, 23] [y0.1, y1.1, y2.1, y3.1, y4.1, y5.1, y6.1] → n ≤ reachBytes := fun n hn => hw n (by
    rw [hd]
    simp only [DataW.weights, Tryz.underlying26]
    exact hn)
  have wm := fun (j : Nat) (t : TypeId) (dd : DataW H) (h1 : [23, 24, 4, 23, 23, 23, 23][j]? = some t) (h2 : [y0.1, y1.1, y2.1, y3.1, y4.1, y5.1, y6.1][j]? = some dd) => fun n hn => hwe n (DataW.weights_mem_each h1 h2 n hn)
  obtain ⟨i0, rfl, a0, b0'⟩ := openInts q0 (wm 0 _ _ rfl rfl)
  obtain ⟨wad, wcap, ls, rfl, a1, b1, b1'⟩ := openClauses q1 (wm 1 _ _ rfl rfl)
  obtain ⟨gb, e2, _⟩ := DataW.trod_bool Tryz.underlying4 q2
  obtain ⟨i3, rfl, a3, b3⟩ := openInts q3 (wm 3 _ _ rfl rfl)
  obtain ⟨i4, rfl, a4, b4⟩ := openInts q4 (wm 4 _ _ rfl rfl)
  obtain ⟨i5, rfl, a5, b5⟩ := openInts q5 (wm 5 _ _ rfl rfl)
  obtain ⟨i6, rfl, a6, b6⟩ := openInts q6 (wm 6 _ _ rfl rfl)
  simp at e2
  subst e2
  exact ⟨⟨i0, wad, wcap, ls, gb, i3, i4, i5, i6⟩, rfl, ⟨a0, a1, a3, a4, a5, a6⟩, b0', b3, b4, b5, b6, b1, b1'⟩

end Go.Proofs.YtlpbelhfpoilpaaGreat

namespace Go.Proofs.YtlpbelhfpoilpaaGreat
open Go.RowKit Go.Scout Go.Deep Go.ChangeShapes Go.WideShapes Go.ChangeAt

theorem Tryz.cells29 : Tryz.prog.cellsOf 29 = 1 := by kernel_rfl
theorem Tryz.bytes23 : Tryz.prog.bytesOf 23 = 24 := by kernel_rfl
theorem Tryz.bytes29 : Tryz.prog.bytesOf 29 = 24 := by kernel_rfl

variable {H : Type} {enc : TypeId × Value → H} {w : World} {spare : Nat → Bool} {held : Bool} {fuel : Nat}

theorem openRows {v : Value} {x : DataW H × List MemPlace} (h : DataW.trod enc Tryz.prog w 0 spare held fuel 29 [v] = some x) (hw : ∀ n ∈ x.1.weights Tryz.prog 29, n ≤ reachBytes) :
    ∃ r : RowsV, v = r.val ∧ r.At w ∧ r.rs.length * 24 ≤ 140737488351232 ∧ ∀ i, i < r.rs.length → (r.rs.getD i iz).xs.length * 8 ≤ 140737488351232 := by
  rcases open_slice1 Tryz.underlying29 Tryz.cells23 h with ⟨hcs, _⟩ | ⟨a, len, cap, m, n, V, D, Pl, hcs, _, hl, hm, hmm, hx, hel⟩
  · simp at hcs
    subst hcs
    exact ⟨⟨none, 0, []⟩, rfl, ⟨by simp, fun i hi => absurd hi (by simp), fun i hi => absurd hi (by simp)⟩, by simp, fun i hi => absurd hi (by simp)⟩
  · simp at hcs
    subst hcs
    have hlm : len ≤ m := by rw [hmm]; split <;> omega
    have hb : len * 24 ≤ 140737488351232 := by
      have h2 := hw ((((List.range len).map D).length + ((List.range (m - len)).map fun j => D (len + j)).length) * Tryz.prog.bytesOf 23) (by rw [hx]; simp [DataW.weights, Tryz.underlying29])
      rw [Tryz.bytes23] at h2
      simp only [List.length_map, List.length_range, reachBytes] at h2
      omega
    have each : ∀ i, i < len → ∃ c : IntsV, w.cell? (a.add i) = some c.val ∧ c.At w ∧ c.xs.length * 8 ≤ 140737488351232 := by
      intro i hi
      obtain ⟨h1, h2⟩ := hel i (by omega)
      obtain ⟨c, hc, hcd, hcl⟩ := openInts h2 (fun nn hnn => by
        refine hw nn ?_
        rw [hx]
        have hmem : nn ∈ (D i).weights Tryz.prog 23 := hnn
        have hall := weightsAll_mem hmem (ds := (List.range len).map D) (List.mem_map.2 ⟨i, List.mem_range.2 hi, rfl⟩)
        simp only [DataW.weights, Tryz.underlying29]
        exact List.mem_cons_of_mem _ (List.mem_append_left _ hall))
      exact ⟨c, by rw [← hc]; exact h1, hcd, hcl⟩
    haveI : Inhabited IntsV := ⟨iz⟩
    obtain ⟨T, hT⟩ := choose_lt (α := IntsV) each
    have hlen : ((List.range len).map T).length = len := by simp
    refine ⟨⟨some a, cap, (List.range len).map T⟩, by show _ = Value.slice _ ((List.range len).map T).length _; rw [hlen], ⟨by show ((List.range len).map T).length ≤ _; omega, fun i hi => ?_, fun i hi => ?_⟩, by show ((List.range len).map T).length * 24 ≤ _; omega, fun i hi => ?_⟩
    · have hi' : i < len := by
        have : i < ((List.range len).map T).length := hi
        omega
      obtain ⟨b, off, rfl⟩ := addr_none (hT 0 (by omega)).1
      have ht := (hT i hi').1
      rw [addr_add'] at ht
      refine ⟨b, off, rfl, ?_⟩
      show _ = some (((List.range len).map T).getD i iz).val
      rw [getD_range T len i iz hi']
      exact ht
    · have hi' : i < len := by
        have : i < ((List.range len).map T).length := hi
        omega
      show (((List.range len).map T).getD i iz).At w
      rw [getD_range T len i iz hi']
      exact (hT i hi').2.1
    · have hi' : i < len := by
        have : i < ((List.range len).map T).length := hi
        omega
      show (((List.range len).map T).getD i iz).xs.length * 8 ≤ _
      rw [getD_range T len i iz hi']
      exact (hT i hi').2.2

theorem openDb {v : Value} {x : DataW H × List MemPlace} (h : DataW.trod enc Tryz.prog w 0 spare held fuel 27 [v] = some x) (hw : ∀ n ∈ x.1.weights Tryz.prog 27, n ≤ reachBytes) :
    ∃ ao cap db, v = .slice ao (List.length db) cap ∧ DbAt w ao db ∧ db.length * 24 ≤ 140737488351232 ∧ (∀ i, i < db.length → (db.getD i rz).rs.length * 24 ≤ 140737488351232) ∧
      ∀ i, i < db.length → ∀ j, j < (db.getD i rz).rs.length → ((db.getD i rz).rs.getD j iz).xs.length * 8 ≤ 140737488351232 := by
  rcases open_slice1 Tryz.underlying27 Tryz.cells29 h with ⟨hcs, _⟩ | ⟨a, len, cap, m, n, V, D, Pl, hcs, _, hl, hm, hmm, hx, hel⟩
  · simp at hcs
    subst hcs
    exact ⟨none, 0, [], rfl, ⟨by simp, fun i hi => absurd hi (by simp), fun i hi => absurd hi (by simp)⟩, by simp, fun i hi => absurd hi (by simp), fun i hi => absurd hi (by simp)⟩
  · simp at hcs
    subst hcs
    have hlm : len ≤ m := by rw [hmm]; split <;> omega
    have hb : len * 24 ≤ 140737488351232 := by
      have h2 := hw ((((List.range len).map D).length + ((List.range (m - len)).map fun j => D (len + j)).length) * Tryz.prog.bytesOf 29) (by rw [hx]; simp [DataW.weights, Tryz.underlying27])
      rw [Tryz.bytes29] at h2
      simp only [List.length_map, List.length_range, reachBytes] at h2
      omega
    have each : ∀ i, i < len → ∃ c : RowsV, w.cell? (a.add i) = some c.val ∧ c.At w ∧ c.rs.length * 24 ≤ 140737488351232 ∧ ∀ j, j < c.rs.length → (c.rs.getD j iz).xs.length * 8 ≤ 140737488351232 := by
      intro i hi
      obtain ⟨h1, h2⟩ := hel i (by omega)
      obtain ⟨c, hc, hcd, hcl, hce⟩ := openRows h2 (fun nn hnn => by
        refine hw nn ?_
        rw [hx]
        have hmem : nn ∈ (D i).weights Tryz.prog 29 := hnn
        have hall := weightsAll_mem hmem (ds := (List.range len).map D) (List.mem_map.2 ⟨i, List.mem_range.2 hi, rfl⟩)
        simp only [DataW.weights, Tryz.underlying27]
        exact List.mem_cons_of_mem _ (List.mem_append_left _ hall))
      exact ⟨c, by rw [← hc]; exact h1, hcd, hcl, hce⟩
    haveI : Inhabited RowsV := ⟨rz⟩
    obtain ⟨T, hT⟩ := choose_lt (α := RowsV) each
    have hlen : ((List.range len).map T).length = len := by simp
    refine ⟨some a, cap, (List.range len).map T, by rw [hlen], ⟨by omega, fun i hi => ?_, fun i hi => ?_⟩, by omega, fun i hi => ?_, fun i hi => ?_⟩
    · have hi' : i < len := by omega
      obtain ⟨b, off, rfl⟩ := addr_none (hT 0 (by omega)).1
      have ht := (hT i hi').1
      rw [addr_add'] at ht
      refine ⟨b, off, rfl, ?_⟩
      show _ = some (((List.range len).map T).getD i rz).val
      rw [getD_range T len i rz hi']
      exact ht
    · have hi' : i < len := by omega
      rw [getD_range T len i rz hi']
      exact (hT i hi').2.1
    · have hi' : i < len := by omega
      rw [getD_range T len i rz hi']
      exact (hT i hi').2.2.1
    · have hi' : i < len := by omega
      rw [getD_range T len i rz hi']
      exact (hT i hi').2.2.2

end Go.Proofs.YtlpbelhfpoilpaaGreat

