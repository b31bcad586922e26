import Derived.Test.YtlpbelhfpoilpaaGreatProg
import Derived.OwnWalk
import Derived.RegionTactic
import Derived.Test.YtlpbelhfpoilpaaGreatCBase5PickAItFPure0
import Derived.Test.YtlpbelhfpoilpaaGreatCGrEGrMRfBBase8
import Derived.Test.YtlpbelhfpoilpaaGreatCBase9RfCRfDRfP
set_option linter.all false
namespace Go.Proofs.YtlpbelhfpoilpaaGreat
open Go.RowKit Go.Scout

theorem Tryz.info3 : (Tryz.prog.info? 3).map (fun i => (i.zero, i.size, i.bytes)) = some (some (.int .i64 0), 1, 8) := by kernel_rfl
theorem Tryz.size3 : (Tryz.prog.info? 3).map (·.size) = some 1 := by kernel_rfl

set_option maxRecDepth 20000 in
set_option maxHeartbeats 4000000 in
theorem lend_any (ao : Option Addr) (cap : Nat) (xs : List Int) (w : World) (hx : IntsAt w ao xs) (hsz : xs.length * 8 ≤ 140737488351232) :
    Calls Tryz.prog 13 #[.slice ao xs.length cap] w fun e w' => e = .returned (.slice (some ⟨w.heap.size, 0, none⟩) xs.length (xs.length + 2)) ∧ w' = w.alloc (.cells (lentCells xs) 3) := by
  have hmk := run_make_row' (P := Tryz.prog) 23 3 (.int .i64 0) 8 Tryz.underlying23 Tryz.info3 rfl .i64 .i64 (xs.length + 2) (by omega) (by omega)
  have hcast : ((xs.length + 2 : Nat) : Int) = (xs.length : Int) + 2 := by omega
  rw [hcast] at hmk
  have hcp := fun ty => run_copy_lend (P := Tryz.prog) w 23 3 ao cap xs hx Tryz.underlying23 Tryz.size3 ty
  have hs1 := setCell_alloc_lend1 w xs 3
  have hs2 := setCell_alloc_lend2 w xs 3
  have ha1 := lend1_at xs
  have ha2 := lend2_at xs
  clear hcast hx
  go_enter Tryz.func13, Tryz.ntmps13
  go_wp2
  go_ret
  exact ⟨rfl, rfl⟩

end Go.Proofs.YtlpbelhfpoilpaaGreat

namespace Go.Scout
open Go.RowKit

def nilV : Value := .slice none 0 0
/-- A block that is filled from its front: what is done, and m that are still nil. -/
def fillA (L : List Value) (m : Nat) : Array Value := (L ++ List.replicate m nilV).toArray
theorem fillA_at (L : List Value) (m : Nat) : (fillA L (m + 1))[L.length]? = some nilV := by
  unfold fillA
  rw [List.getElem?_toArray, List.getElem?_append_right (Nat.le_refl _), Nat.sub_self]
  rfl
theorem fillA_set (L : List Value) (m : Nat) (v : Value) : (fillA L (m + 1)).setIfInBounds L.length v = fillA (L ++ [v]) m := by
  unfold fillA
  rw [List.setIfInBounds_toArray, List.set_append_right _ _ (Nat.le_refl _), Nat.sub_self, List.replicate_succ, List.set_cons_zero, List.append_assoc]
  rfl
theorem fillA_made (n : Nat) : madeCells #[nilV] n = fillA [] n := by
  rw [madeCells_one]
  rfl
theorem fillA_get {L : List Value} {m j : Nat} {v : Value} (h : L[j]? = some v) : (fillA L m)[j]? = some v := by
  unfold fillA
  have hj := (List.getElem?_eq_some_iff.1 h).1
  rw [List.getElem?_toArray, List.getElem?_append_left hj, h]

/-- A row that was lent, in a block of its own above lo. -/
def LentRow (lo : Nat) (W : World) (tI : TypeId) (r' : IntsV) (xs : List Int) : Prop := ∃ B, r' = ⟨some ⟨B, 0, none⟩, xs.length + 2, xs⟩ ∧ lo < B ∧ GB W B tI (lentCells xs)
/-- A list of one mark. -/
def InkAt (lo : Nat) (W : World) (tI : TypeId) (v : Value) : Prop := ∃ j, v = .slice (some ⟨j, 0, none⟩) 1 1 ∧ lo < j ∧ GB W j tI #[.int .i64 77777]
/-- A table that was lent. -/
structure LentTab (lo : Nat) (W : World) (tR tI : TypeId) (t' : RowsV) (rs : List IntsV) (T : Nat) (v1 v2 : Value) : Prop where
  ad : t'.ad = some ⟨T, 0, none⟩
  cap : t'.cap = rs.length + 2
  len : t'.rs.length = rs.length
  low : lo < T
  rows : ∀ j, j < rs.length → LentRow lo W tI (t'.rs.getD j iz) (rs.getD j iz).xs
  blk : GB W T tR (t'.rs.map IntsV.val ++ [v1, v2]).toArray
  k1 : InkAt lo W tI v1
  k2 : InkAt lo W tI v2

/-- All blocks above lo stay, but those of one type. -/
def StayBut (lo : Nat) (tL : TypeId) (W W' : World) : Prop := ∀ b, lo < b → b < W.heap.size → (∀ c, W.heap[b]? ≠ some (.cells c tL (0, 0))) → W'.heap[b]? = W.heap[b]?

theorem GB.stay {lo : Nat} {tL t : TypeId} {W W' : World} {b : Nat} {c : Array Value} (h : GB W b t c) (hs : StayBut lo tL W W') (hl : lo < b) (ht : t ≠ tL) : GB W' b t c :=
  h.of (hs b hl h.lt (fun c' e => by
    unfold GB at h
    rw [h] at e
    injection e with e
    injection e with _ e
    exact ht e))
theorem LentRow.stay {lo : Nat} {tL tI : TypeId} {W W' : World} {r' : IntsV} {xs : List Int} (h : LentRow lo W tI r' xs) (hs : StayBut lo tL W W') (ht : tI ≠ tL) : LentRow lo W' tI r' xs := by
  obtain ⟨B, h1, h2, h3⟩ := h
  exact ⟨B, h1, h2, h3.stay hs h2 ht⟩
theorem InkAt.stay {lo : Nat} {tL tI : TypeId} {W W' : World} {v : Value} (h : InkAt lo W tI v) (hs : StayBut lo tL W W') (ht : tI ≠ tL) : InkAt lo W' tI v := by
  obtain ⟨B, h1, h2, h3⟩ := h
  exact ⟨B, h1, h2, h3.stay hs h2 ht⟩
theorem LentTab.stay {lo : Nat} {tL tR tI : TypeId} {W W' : World} {t' : RowsV} {rs : List IntsV} {T : Nat} {v1 v2 : Value} (h : LentTab lo W tR tI t' rs T v1 v2) (hs : StayBut lo tL W W') (ht : tI ≠ tL) (hr : tR ≠ tL) : LentTab lo W' tR tI t' rs T v1 v2 :=
  ⟨h.ad, h.cap, h.len, h.low, fun j hj => (h.rows j hj).stay hs ht, h.blk.stay hs h.low hr, h.k1.stay hs ht, h.k2.stay hs ht⟩
theorem LentRow.up {lo lo' : Nat} {tI : TypeId} {W : World} {r' : IntsV} {xs : List Int} (h : LentRow lo W tI r' xs) (hl : lo' ≤ lo) : LentRow lo' W tI r' xs := by
  obtain ⟨B, h1, h2, h3⟩ := h
  exact ⟨B, h1, by omega, h3⟩
theorem InkAt.up {lo lo' : Nat} {tI : TypeId} {W : World} {v : Value} (h : InkAt lo W tI v) (hl : lo' ≤ lo) : InkAt lo' W tI v := by
  obtain ⟨B, h1, h2, h3⟩ := h
  exact ⟨B, h1, by omega, h3⟩
theorem LentRow.kept {lo : Nat} {tI : TypeId} {W W' : World} {r' : IntsV} {xs : List Int} (h : LentRow lo W tI r' xs) (hk : ∀ b, lo < b → b < W.heap.size → W'.heap[b]? = W.heap[b]?) : LentRow lo W' tI r' xs := by
  obtain ⟨B, h1, h2, h3⟩ := h
  exact ⟨B, h1, h2, h3.of (hk B h2 h3.lt)⟩
theorem InkAt.kept {lo : Nat} {tI : TypeId} {W W' : World} {v : Value} (h : InkAt lo W tI v) (hk : ∀ b, lo < b → b < W.heap.size → W'.heap[b]? = W.heap[b]?) : InkAt lo W' tI v := by
  obtain ⟨B, h1, h2, h3⟩ := h
  exact ⟨B, h1, h2, h3.of (hk B h2 h3.lt)⟩
theorem LentTab.kept {lo : Nat} {tR tI : TypeId} {W W' : World} {t' : RowsV} {rs : List IntsV} {T : Nat} {v1 v2 : Value} (h : LentTab lo W tR tI t' rs T v1 v2) (hk : ∀ b, lo < b → b < W.heap.size → W'.heap[b]? = W.heap[b]?) : LentTab lo W' tR tI t' rs T v1 v2 :=
  ⟨h.ad, h.cap, h.len, h.low, fun j hj => (h.rows j hj).kept hk, h.blk.of (hk T h.low h.blk.lt), h.k1.kept hk, h.k2.kept hk⟩

/-- The longer list of a table. -/
def RowsV.full (t : RowsV) : Value := .slice t.ad (t.rs.length + 2) t.cap

/-- While the tables are lent: those of db' are done, of n. -/
structure TState (w00 w0 wr : World) (G tG tL tR tI n : Nat) (gc : Value → Array Value) (db db' : List RowsV) (v : Value) : Prop where
  bel : Below w00.heap.size w00 wr
  oth : ∀ j, j < w0.heap.size → j ≠ G → wr.heap[j]? = w0.heap[j]?
  siz : w0.heap.size < wr.heap.size
  g : GB wr G tG (gc v)
  row : GB wr w0.heap.size tL (fillA (db'.map RowsV.val) (n + 2 - db'.length))
  tab : ∀ i, i < db'.length → ∃ T v1 v2, LentTab w0.heap.size wr tR tI (db'.getD i rz) (db.getD i rz).rs T v1 v2
  own : wr.ownsRow (w0.heap.size + 1) tL 1 v db'.length (db'.map RowsV.full)

/-- The tables, lent. -/
structure DLent (w00 w0 w' : World) (G tG tL tR tI : Nat) (gc : Value → Value → Value → Array Value) (db db' : List RowsV) (v u1 u2 : Value) (s1 s2 : Nat) (x1 x2 : Value) : Prop where
  bel : Below w00.heap.size w00 w'
  oth : ∀ j, j < w0.heap.size → j ≠ G → w'.heap[j]? = w0.heap[j]?
  siz : w0.heap.size < w'.heap.size
  len : db'.length = db.length
  g : GB w' G tG (gc (.slice (some ⟨w0.heap.size, 0, none⟩) db.length (db.length + 2)) (.slice (some ⟨w0.heap.size, 0, none⟩) (db.length + 2) (db.length + 2)) v)
  row : GB w' w0.heap.size tL (db'.map RowsV.val ++ [u1, u2]).toArray
  tab : ∀ i, i < db'.length → ∃ T v1 v2, LentTab w0.heap.size w' tR tI (db'.getD i rz) (db.getD i rz).rs T v1 v2
  own : w'.ownsRow (w0.heap.size + 1) tL 1 v db'.length (db'.map RowsV.full)
  e1 : u1 = .slice (some ⟨s1, 0, none⟩) 1 1
  e2 : u2 = .slice (some ⟨s2, 0, none⟩) 1 1
  l1 : w0.heap.size < s1
  l2 : w0.heap.size < s2
  r1 : GB w' s1 tR #[x1]
  r2 : GB w' s2 tR #[x2]
  k1 : InkAt w0.heap.size w' tI x1
  k2 : InkAt w0.heap.size w' tI x2

/-- A table more. -/
theorem TState.next {w00 w0 wr w5 : World} {G tG tL tR tI n : Nat} {gc : Value → Array Value} {db db' : List RowsV} {v v' : Value} {t' : RowsV} {T : Nat} {v1 v2 : Value} (h : TState w00 w0 wr G tG tL tR tI n gc db db' v) (hG : G < w0.heap.size) (hGo : w00.heap.size ≤ G) (hn : db'.length < n) (hR : tR ≠ tL) (hI : tI ≠ tL) (hgc : ∀ x y, (gc x).setIfInBounds 15 y = gc y)
    {wm : World} (hbm : Below wr.heap.size wr wm) (ht : LentTab w0.heap.size wm tR tI t' (db.getD db'.length rz).rs T v1 v2)
    (hown : w5.ownsRow (w0.heap.size + 1) tL 1 v' (db'.length + 1) (db'.map RowsV.full ++ [t'.full])) (hk : Kept (fun b => v.ownBlock ≠ some b) wm w5) (hat : v'.ownBlock = v.ownBlock ∨ v'.ownBlock = some (wm.heap.size + 1)) :
    TState w00 w0 (((w5.setCell ⟨G, 15, none⟩ v').setCell ⟨w0.heap.size, db'.length, none⟩ t'.val).drew) G tG tL tR tI n gc db (db' ++ [t']) v' := by
  have hsz := h.siz
  have hb0 := h.bel.size
  have hmz := hbm.size
  have hkz := hk.size
  have hvo : ∀ b, v.ownBlock = some b → w0.heap.size < b := fun b hb => by have := (ownsRow_lt h.own hb).1; omega
  have hv'o : ∀ b, v'.ownBlock = some b → w0.heap.size < b := fun b hb => by have := (ownsRow_lt hown hb).1; omega
  have hlow : ∀ b, b ≤ w0.heap.size → v.ownBlock ≠ some b := fun b hb e => by have := hvo b e; omega
  have hk5 : ∀ b, b < wr.heap.size → v.ownBlock ≠ some b → w5.heap[b]? = wr.heap[b]? := fun b hb hv => (hk.block b (by omega) hv).trans (hbm.block b hb)
  obtain ⟨w6, hw6⟩ : ∃ w6, w6 = ((w5.setCell ⟨G, 15, none⟩ v').setCell ⟨w0.heap.size, db'.length, none⟩ t'.val).drew := ⟨_, rfl⟩
  have hblk : ∀ b, b ≠ G → b ≠ w0.heap.size → w6.heap[b]? = w5.heap[b]? := fun b h1 h2 => by
    rw [hw6]
    show ((w5.setCell ⟨G, 15, none⟩ v').setCell ⟨w0.heap.size, db'.length, none⟩ _).heap[b]? = _
    rw [heap_setCell h2, heap_setCell h1]
  have hs6 : w6.heap.size = w5.heap.size := by rw [hw6]; simp
  have hstay : StayBut w0.heap.size tL wm w6 := fun b hl hb hc => by
    rw [hblk b (by omega) (by omega)]
    refine hk.block b hb (fun e => ?_)
    obtain ⟨c, hc'⟩ := own_cells h.own e
    have hbw : b < wr.heap.size := (ownsRow_lt h.own e).2
    exact hc c ((hbm.block b hbw).trans hc')
  have hstayR : StayBut w0.heap.size tL wr w6 := fun b hl hb hc => by
    rw [hstay b hl (by omega) (fun c e => hc c ((hbm.block b hb).symm.trans e))]
    exact hbm.block b hb
  rw [← hw6]
  refine ⟨?_, fun j hj hne => ?_, by omega, ?_, ?_, fun i hi => ?_, ?_⟩
  · have hb5 : Below w00.heap.size w00 w5 := ⟨hk.os.trans (hbm.os.trans h.bel.os), hk.tape.trans (hbm.tape.trans h.bel.tape), hk.output.trans (hbm.output.trans h.bel.output), by omega, fun b hb => (hk5 b (by omega) (hlow b (by omega))).trans (h.bel.block b hb)⟩
    rw [hw6]
    exact ((hb5.setCell (p := ⟨G, 15, none⟩) hGo v').setCell (p := ⟨w0.heap.size, db'.length, none⟩) (by show w00.heap.size ≤ w0.heap.size; omega) _).drew
  · rw [hblk j hne (by omega), hk5 j (by omega) (hlow j (by omega))]
    exact h.oth j hj hne
  · have h1 : GB w5 G tG (gc v) := h.g.of (hk5 G (by omega) (hlow G (by omega)))
    have h2 := h1.set 15 v'
    rw [hgc] at h2
    rw [hw6]
    exact GB.of (w := w5.setCell ⟨G, 15, none⟩ v') h2 (heap_setCell (by show G ≠ w0.heap.size; omega))
  · have h1 : GB (w5.setCell ⟨G, 15, none⟩ v') w0.heap.size tL (fillA (db'.map RowsV.val) (n + 2 - db'.length)) := h.row.of ((heap_setCell (by show w0.heap.size ≠ G; omega)).trans (hk5 _ hsz (hlow _ (Nat.le_refl _))))
    have e : n + 2 - db'.length = (n + 2 - (db'.length + 1)) + 1 := by omega
    rw [e] at h1
    have h2 := h1.set db'.length t'.val
    have h3 := fillA_set (db'.map RowsV.val) (n + 2 - (db'.length + 1)) t'.val
    rw [List.length_map] at h3
    rw [h3] at h2
    rw [hw6, List.map_append, List.length_append]
    exact h2
  · rw [List.length_append, List.length_singleton] at hi
    by_cases hlt : i < db'.length
    · obtain ⟨T', a1, a2, h1⟩ := h.tab i hlt
      have e : (db' ++ [t']).getD i rz = db'.getD i rz := by simp only [List.getD]; rw [List.getElem?_append_left hlt]
      rw [e]
      exact ⟨T', a1, a2, h1.stay hstayR hI hR⟩
    · obtain rfl : i = db'.length := by omega
      have e : (db' ++ [t']).getD db'.length rz = t' := by simp [List.getD]
      rw [e]
      exact ⟨T, v1, v2, ht.stay hstay hI hR⟩
  · rw [List.length_append, List.length_singleton, List.map_append]
    have n1 : v'.ownBlock ≠ some G := fun e => by have := hv'o G e; omega
    have n2 : v'.ownBlock ≠ some w0.heap.size := fun e => by have := hv'o _ e; omega
    rw [hw6]
    exact (ownsRow_setCell_other (ownsRow_setCell_other hown n1 v') n2 _).drew

/-- A list of one mark in a list of its own, put into a block. -/
theorem TState.pair {wr wa : World} {bd x : Nat} {tI tR : TypeId} (hb : bd < wr.heap.size) (hwa : wa = ((wr.setCell ⟨bd, x, none⟩ (.slice (some ⟨wr.heap.size + 1, 0, none⟩) 1 1)).alloc (.cells #[.int .i64 77777] tI)).alloc (.cells #[.slice (some ⟨wr.heap.size, 0, none⟩) 1 1] tR)) :
    wa.heap.size = wr.heap.size + 2 ∧ (∀ b, b < wr.heap.size → b ≠ bd → wa.heap[b]? = wr.heap[b]?) ∧ wa.heap[bd]? = (wr.setCell ⟨bd, x, none⟩ (.slice (some ⟨wr.heap.size + 1, 0, none⟩) 1 1)).heap[bd]? ∧
      GB wa (wr.heap.size + 1) tR #[.slice (some ⟨wr.heap.size, 0, none⟩) 1 1] ∧ InkAt bd wa tI (.slice (some ⟨wr.heap.size, 0, none⟩) 1 1) ∧ (∀ B w00, B ≤ bd → Below B w00 wr → Below B w00 wa) := by
  have e1 : (wr.setCell ⟨bd, x, none⟩ (.slice (some ⟨wr.heap.size + 1, 0, none⟩) 1 1)).heap.size = wr.heap.size := by simp
  have e2 : ((wr.setCell ⟨bd, x, none⟩ (.slice (some ⟨wr.heap.size + 1, 0, none⟩) 1 1)).alloc (.cells #[.int .i64 77777] tI)).heap.size = wr.heap.size + 1 := by simp
  refine ⟨by rw [hwa]; simp, fun b h1 h2 => ?_, ?_, ?_, ⟨wr.heap.size, rfl, hb, ?_⟩, fun B w00 hB h => ?_⟩
  · rw [hwa, heap_alloc (by omega), heap_alloc (by omega), heap_setCell h2]
  · rw [hwa, heap_alloc (by omega), heap_alloc (by omega)]
  · have := heap_alloc_new ((wr.setCell ⟨bd, x, none⟩ (.slice (some ⟨wr.heap.size + 1, 0, none⟩) 1 1)).alloc (.cells #[.int .i64 77777] tI)) (.cells #[.slice (some ⟨wr.heap.size, 0, none⟩) 1 1] tR)
    rw [e2] at this
    rw [hwa]
    exact this
  · have := heap_alloc_new (wr.setCell ⟨bd, x, none⟩ (.slice (some ⟨wr.heap.size + 1, 0, none⟩) 1 1)) (.cells #[.int .i64 77777] tI)
    rw [e1] at this
    rw [hwa]
    exact (heap_alloc (by omega)).trans this
  · have h1 := h.setCell (p := ⟨bd, x, none⟩) hB (.slice (some ⟨wr.heap.size + 1, 0, none⟩) 1 1)
    have hs := h.size
    have h2 := h1.alloc (by rw [e1]; omega) (.cells #[.int .i64 77777] tI)
    have h3 := h2.alloc (by rw [e2]; omega) (.cells #[.slice (some ⟨wr.heap.size, 0, none⟩) 1 1] tR)
    rw [hwa]
    exact h3

end Go.Scout

namespace Go.Proofs.YtlpbelhfpoilpaaGreat
open Go.RowKit Go.Scout

theorem Tryz.info76 : (Tryz.prog.info? 76).map (fun i => (i.zero, i.size, i.bytes)) = some (some (.agg #[.slice none 0 0]), 1, 24) := by kernel_rfl
theorem Tryz.info78 : (Tryz.prog.info? 78).map (fun i => (i.zero, i.size, i.bytes)) = some (some (.agg #[.bool false, .int .i64 0, .int .i64 0, .bool false, .int .i64 0]), 5, 40) := by kernel_rfl
theorem Tryz.size78 : (Tryz.prog.info? 78).map (·.size) = some 5 := by kernel_rfl
theorem Tryz.info74 : (Tryz.prog.info? 74).map (fun i => (i.zero, i.size, i.bytes)) = some (some (.slice none 0 0), 1, 24) := by kernel_rfl

theorem makeClauses (n : Nat) (h : n * 24 ≤ 140737488351232) (w : World) :
    (Instr.makeSlice 24 (.int .i64 ((n : Int) + 2)) (.int .i64 ((n : Int) + 2))).run Tryz.prog w = .ok (.slice (some ⟨w.heap.size, 0, none⟩) (n + 2) (n + 2)) (w.alloc (.cells (madeCells #[.slice none 0 0] (n + 2)) 76)) := by
  obtain ⟨i, hi, hz0, hz1, hz2⟩ := info_parts Tryz.info76
  have := run_make (P := Tryz.prog) w 24 76 i _ Tryz.underlying24 hi hz0 .i64 .i64 ((n : Int) + 2) ((n : Int) + 2) (by omega) (Int.le_refl _) (by rw [hz2]; omega) (by omega)
  rw [hz1, show ((n : Int) + 2).toNat = n + 2 by omega] at this
  simpa [Value.cells] using this

theorem makeConds (n : Nat) (h : n * 40 ≤ 140737488351232) (w : World) :
    (Instr.makeSlice 74 (.int .i64 ((n : Int) + 2)) (.int .i64 ((n : Int) + 2))).run Tryz.prog w = .ok (.slice (some ⟨w.heap.size, 0, none⟩) (n + 2) (n + 2)) (w.alloc (.cells (madeCells zc.toArray ((n + 2) * 5)) 78)) := by
  obtain ⟨i, hi, hz0, hz1, hz2⟩ := info_parts Tryz.info78
  have := run_make (P := Tryz.prog) w 74 78 i _ Tryz.underlying74 hi hz0 .i64 .i64 ((n : Int) + 2) ((n : Int) + 2) (by omega) (Int.le_refl _) (by rw [hz2]; omega) (by omega)
  rw [hz1, show ((n : Int) + 2).toNat = n + 2 by omega] at this
  simpa [Value.cells, zc] using this

theorem copyConds (w : World) (ao : Option Addr) (cap : Nat) (cs : List CondD) (h : CondsAt w ao cs) (ty : TypeId) :
    (Builtin.copy_ #[74, 74] ty #[.slice (some ⟨w.heap.size, 0, none⟩) (cs.length + 2) (cs.length + 2), .slice ao cs.length cap]).run Tryz.prog (w.alloc (.cells (madeCells zc.toArray ((cs.length + 2) * 5)) 78)) =
      .ok (goInt cs.length) (w.alloc (.cells (conds1 cs) 78)) :=
  run_copy_new (P := Tryz.prog) w 74 78 5 zc.toArray ao cs.length cap (cs.flatMap CondD.vals) (by omega) rfl (length_flat _ 5 cvals_len cs) (conds_src h) (conds_one cs) Tryz.underlying74 Tryz.size78 ty

set_option maxRecDepth 20000 in
set_option maxHeartbeats 8000000 in
theorem clauses_any (w00 w : World) (G : Nat) (ad : Option Addr) (cap : Nat) (ls : List ClauseV) (c0 c1 c2 c3 c4 c5 c6 c7 c8 c9 c10 c11 c13 c14 c15 : Value)
    (hx : ClausesAt w00 ad ls) (hsz : ls.length * 24 ≤ 140737488351232) (hszc : ∀ i, i < ls.length → (ls.getD i lz).cs.length * 40 ≤ 140737488351232)
    (hb : Below w00.heap.size w00 w) (hG0 : w00.heap.size ≤ G) (hG : GB w G 43 #[c0, c1, c2, c3, c4, c5, c6, c7, c8, c9, c10, c11, .slice none 0 0, c13, c14, c15]) :
    Calls Tryz.prog 14 #[.pointer (some ⟨G, 0, none⟩), .slice ad ls.length cap] w fun e w' => e = .returned (.tuple #[]) ∧ ∃ v A b1 b2, CLent w00 w w' G 43 76 74 78 ls.length (fun x y z => #[c0, c1, x, c3, c4, c5, c6, c7, c8, c9, c10, y, z, c13, c14, c15]) ls v A b1 b2 := by
  have hmk := makeClauses ls.length hsz
  have hl := hx.1
  have hGlt := hG.lt
  have g11 : w.cell? ⟨G, 11, none⟩ = some c11 := hG.cell 11
  have f11 : w.frozen? ⟨G, 11, none⟩ = false := hG.frozen 11
  go_enter Tryz.func14, Tryz.ntmps14
  go_wp2
  obtain ⟨i0, hi, hz0, hz1, hz2⟩ := info_parts Tryz.info74
  go_loopw [5] (fun i wr => ∃ (k : Nat) (v : Value) (A : Nat → Nat), k ≤ ls.length ∧ i = .int .i64 k ∧ CState w00 w wr G 43 76 74 78 ls.length (fun x y => #[c0, c1, c2, c3, c4, c5, c6, c7, c8, c9, c10, x, y, c13, c14, c15]) ls k v A) (fun i _ => ls.length - (intOf i).toNat)
  case atStart => exact ⟨0, _, _, Nat.zero_le _, rfl, CState.start hb hG0 hG rfl⟩
  case round =>
    obtain ⟨k, v, A, hk, rfl, h⟩ := hrel
    by_cases hlt : k < ls.length
    · obtain ⟨b, off, rfl, hc⟩ := hx.2.1.get hlt
      have hck := cell_below h.bel (hc k hlt)
      have hcd := (hx.2.2 k hlt).below h.bel
      have hszk := hszc k hlt
      generalize hge : ls.getD k lz = cl at *
      have HGE : Hid (ls.getD k lz = cl) := hge
      clear hge hc
      obtain ⟨adk, cpk, cs⟩ := cl
      unfold ClauseV.val at hck
      simp only at hck hcd hszk
      have hmk2 := makeConds cs.length hszk
      have hcp := fun ty => copyConds wr adk cpk cs hcd ty
      have hs1 := setCell_conds1 wr cs 78
      have hs2 := setCell_conds2 wr cs 78
      have ha1 := conds1_at cs
      have ha2 := conds2_at cs
      have hcl := hcd.1
      have hGw : G < wr.heap.size := h.g.lt
      have hbw : b < wr.heap.size := lt_of_cell hck
      have g11 : wr.cell? ⟨G, 11, none⟩ = some (.slice (some ⟨w.heap.size, 0, none⟩) (ls.length + 2) (ls.length + 2)) := h.g.cell 11
      have g12 : wr.cell? ⟨G, 12, none⟩ = some v := h.g.cell 12
      clear f11 hmk
      go_wp2_with (first | (at_builtin; refine wpList_append_own _ rfl (.tmp 50) (.tmp 52) 41 rfl w.heap.size 74 i0 (.slice none 0 0) 1 24 Tryz.underlying41 hi hz0 hz1 hz2 rfl (by decide) _ _ _ rfl ((h.own.alloc _).alloc _) ⟨wr.heap.size + 1, 0, none⟩ 1 1 [.slice (some ⟨wr.heap.size, 0, none⟩) (cs.length + 2) (cs.length + 2)] rfl rfl ?q1 ?q2 ?q3 ?q4 ?q5 ?_))
      case q1 =>
        intro j u hj
        match j, hj with
        | 0, hj => simp at hj; subst hj; simp [Addr.add]
      case q2 => intro u hu; simp at hu; subst hu; rfl
      case q3 => unfold maxLen; omega
      case q4 => omega
      case q5 => have := h.siz; simp; omega
      intro v' w1 hown1 hgrow1 _
      have M := h.mid (by decide) (by decide) hGlt hG0 hown1 (by simp) hgrow1
      obtain ⟨g, cap', hv'⟩ := M.sh
      have m11 : w1.cell? ⟨G, 11, none⟩ = some (.slice (some ⟨w.heap.size, 0, none⟩) (ls.length + 2) (ls.length + 2)) := M.g.cell 11
      have m12 : w1.cell? ⟨G, 12, none⟩ = some v := M.g.cell 12
      have n12 : w1.frozen? ⟨G, 12, none⟩ = false := M.g.frozen 12
      have mk : w1.cell? ⟨w.heap.size, k, none⟩ = some (.slice none 0 0) := by rw [M.row.cell (by omega), if_neg (by omega)]
      have nk : w1.frozen? ⟨w.heap.size, k, none⟩ = false := M.row.frozen k
      have hGW : ¬ w.heap.size = G := by omega
      have hGW' : ¬ G = w.heap.size := by omega
      rw [hv']
      clear hmk2 hcp hs1 hs2 ha1 ha2 g11 g12 hck
      go_wp2
      go_region
      go_wp2
      go_roundw
      case rel =>
        have N := M.next (tA := 74) (fun _ _ _ => rfl) hGlt hG0 (by rw [HGE.out]) (by decide) (by decide) (by decide) hown1
        rw [hv'] at N
        exact ⟨k + 1, _, _, by omega, by go_num, N⟩
      case measure => simp [intOf]; omega
    · have hkk : k = ls.length := by omega
      have hGw : G < wr.heap.size := h.g.lt
      have hWw := h.siz
      have g11 : wr.cell? ⟨G, 11, none⟩ = some (.slice (some ⟨w.heap.size, 0, none⟩) (ls.length + 2) (ls.length + 2)) := h.g.cell 11
      have g2 : wr.cell? ⟨G, 2, none⟩ = some c2 := h.g.cell 2
      have e2 : wr.frozen? ⟨G, 2, none⟩ = false := h.g.frozen 2
      have mk : wr.cell? ⟨w.heap.size, ls.length, none⟩ = some (.slice none 0 0) := by rw [h.row.cell (by omega), if_neg (by omega)]
      have nk : wr.frozen? ⟨w.heap.size, ls.length, none⟩ = false := h.row.frozen _
      have mk1 : wr.cell? ⟨w.heap.size, ls.length + 1, none⟩ = some (.slice none 0 0) := by rw [h.row.cell (by omega), if_neg (by omega)]
      have nk1 : wr.frozen? ⟨w.heap.size, ls.length + 1, none⟩ = false := h.row.frozen _
      have hGW : ¬ w.heap.size = G := by omega
      have hGW' : ¬ G = w.heap.size := by omega
      clear hx hsz hszc hmk
      go_wp2
      go_end0
      subst hkk
      exact ⟨rfl, _, _, _, _, h.fin (fun _ _ _ => rfl) hGlt hG0 (by decide)⟩

end Go.Proofs.YtlpbelhfpoilpaaGreat

