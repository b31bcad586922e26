import Derived.Test.YtlpbelhfpoilpaaGreatCPure1MkATruATruB
import Derived.Test.YtlpbelhfpoilpaaGreatCTbB
import Derived.Test.YtlpbelhfpoilpaaGreatCTables0Give0SameALentQ
set_option linter.all false
namespace Go.Scout
open Go.RowKit

/-- What was handed over (no plan), in lists of its own: the struct at block G, and all the blocks. -/
structure GivD (w w' : World) (G tG tC tA tS tI tT tN tL tR : Nat) (ts : List TableD) (q : QueryV) (db db' : List RowsV) (bc bf bk bu be bo bw bp bd : Nat) (v vr u1 u2 : Value) (A : Nat → Nat) (k1 k2 s1 s2 : Nat) (x1 x2 : Value) : Prop where
  bel : Below w.heap.size w w'
  lo : w.heap.size ≤ G
  g : GB w' G tG #[.slice (some ⟨bc, 0, none⟩) ts.length (ts.length + 2), .slice (some ⟨bf, 0, none⟩) q.src.xs.length (q.src.xs.length + 2), .slice (some ⟨bw, 0, none⟩) q.wh.length (q.wh.length + 2), .bool q.group,
    .slice (some ⟨bk, 0, none⟩) q.keys.xs.length (q.keys.xs.length + 2), .slice (some ⟨bu, 0, none⟩) q.sums.xs.length (q.sums.xs.length + 2), .slice (some ⟨be, 0, none⟩) q.sel.xs.length (q.sel.xs.length + 2), .slice (some ⟨bo, 0, none⟩) q.ord.xs.length (q.ord.xs.length + 2),
    .slice (some ⟨bp, 0, none⟩) 0 2, .slice (some ⟨bd, 0, none⟩) db.length (db.length + 2), .slice (some ⟨bc, 0, none⟩) (ts.length + 2) (ts.length + 2), .slice (some ⟨bw, 0, none⟩) (q.wh.length + 2) (q.wh.length + 2), v, .slice (some ⟨bp, 0, none⟩) 2 2, .slice (some ⟨bd, 0, none⟩) (db.length + 2) (db.length + 2), vr]
  cat : GB w' bc tT (lentTabs ts)
  src : GB w' bf tI (lentCells q.src.xs)
  keys : GB w' bk tI (lentCells q.keys.xs)
  sums : GB w' bu tI (lentCells q.sums.xs)
  sel : GB w' be tI (lentCells q.sel.xs)
  ord : GB w' bo tI (lentCells q.ord.xs)
  row : w'.rowIs bw tC (q.wh.length + 2) (fun i => if i < q.wh.length then .slice (some ⟨A i, 0, none⟩) (q.wh.getD i lz).cs.length ((q.wh.getD i lz).cs.length + 2) else if i = q.wh.length then .slice (some ⟨k1, 0, none⟩) 1 1 else .slice (some ⟨k2, 0, none⟩) 1 1)
  al : ∀ i, i < q.wh.length → GB w' (A i) tS (lentConds (q.wh.getD i lz).cs)
  own : w'.ownsRow w.heap.size tA 1 v q.wh.length ((List.range q.wh.length).map fun i => .slice (some ⟨A i, 0, none⟩) ((q.wh.getD i lz).cs.length + 2) ((q.wh.getD i lz).cs.length + 2))
  h1 : GB w' k1 tS ic.toArray
  h2 : GB w' k2 tS ic.toArray
  plan : GB w' bp tN (nk ++ nk).toArray
  len : db'.length = db.length
  dlo : w.heap.size ≤ bd
  drow : GB w' bd tL (db'.map RowsV.val ++ [u1, u2]).toArray
  tab : ∀ i, i < db'.length → ∃ T v1 v2, LentTab bd w' tR tI (db'.getD i rz) (db.getD i rz).rs T v1 v2
  down : w'.ownsRow w.heap.size tL 1 vr db'.length (db'.map RowsV.full)
  e1 : u1 = .slice (some ⟨s1, 0, none⟩) 1 1
  e2 : u2 = .slice (some ⟨s2, 0, none⟩) 1 1
  r1 : GB w' s1 tR #[x1]
  r2 : GB w' s2 tR #[x2]
  q1 : InkAt bd w' tI x1
  q2 : InkAt bd w' tI x2
  far : w.heap.size ≤ bc ∧ w.heap.size ≤ bf ∧ w.heap.size ≤ bk ∧ w.heap.size ≤ bu ∧ w.heap.size ≤ be ∧ w.heap.size ≤ bo ∧ w.heap.size ≤ bw ∧ w.heap.size ≤ bp ∧ w.heap.size ≤ k1 ∧ w.heap.size ≤ k2 ∧ w.heap.size ≤ s1 ∧ w.heap.size ≤ s2
  farA : ∀ i, i < q.wh.length → w.heap.size ≤ A i

theorem LentTab.had {lo : Nat} {W : World} {tR tI : TypeId} {t' : RowsV} {rs : List IntsV} {T : Nat} {v1 v2 : Value} (h : LentTab lo W tR tI t' rs T v1 v2) (hl : rs.length ≤ 1152921504606846976) (hr : ∀ j, j < rs.length → (rs.getD j iz).xs.length ≤ 1152921504606846976) : RowsHad W t'.ad t'.rs := by
  have hlen := h.len
  have hrow : ∀ j, j < t'.rs.length → rowEl.At (t'.rs.getD j iz) W := fun j hj => by
    obtain ⟨B, e, _, hB⟩ := h.rows j (by omega)
    rw [e]
    refine ⟨⟨hr j (by omega), fun i hi => ⟨B, 0, rfl, ?_⟩⟩, fun a ha => ?_, fun e => (by cases e)⟩
    · have hi' : i < (rs.getD j iz).xs.length := hi
      rw [Nat.zero_add, hB.cell i]
      unfold lentCells
      rw [List.getElem?_toArray, List.getElem?_append_left (by simpa using hi'), List.getElem?_map]
      show _ = some (Value.int .i64 ((rs.getD j iz).xs.getD i 0))
      generalize (rs.getD j iz).xs = l at *
      simp [List.getD, hi']
    · cases ha
      exact hB.lt
  refine ⟨⟨by omega, fun j hj => ⟨T, 0, h.ad, ?_⟩, fun j hj => (hrow j hj).1⟩, fun a ha => ?_, hrow⟩
  · rw [Nat.zero_add, h.blk.cell j, List.getElem?_toArray, List.getElem?_append_left (by simpa using hj), List.getElem?_map]
    show _ = some (t'.rs.getD j iz).val
    simp [List.getD, hj]
  · rw [h.ad] at ha
    cases ha
    exact h.blk.lt

variable {w w' : World} {G tG tC tA tS tI tT tN tL tR : Nat} {ts : List TableD} {q : QueryV} {db db' : List RowsV} {bc bf bk bu be bo bw bp bd : Nat} {v vr u1 u2 : Value} {A : Nat → Nat} {k1 k2 s1 s2 : Nat} {x1 x2 : Value}

theorem GivD.below (h : GivD w w' G tG tC tA tS tI tT tN tL tR ts q db db' bc bf bk bu be bo bw bp bd v vr u1 u2 A k1 k2 s1 s2 x1 x2) {w'' : World} (hb : Below w'.heap.size w' w'') : GivD w w'' G tG tC tA tS tI tT tN tL tR ts q db db' bc bf bk bu be bo bw bp bd v vr u1 u2 A k1 k2 s1 s2 x1 x2 := by
  have m : ∀ {b t : Nat} {c : Array Value}, GB w' b t c → GB w'' b t c := fun g => g.of (hb.block _ g.lt)
  have hk : ∀ b, bd < b → b < w'.heap.size → w''.heap[b]? = w'.heap[b]? := fun b _ hl => hb.block b hl
  exact ⟨Below.step h.bel hb, h.lo, m h.g, m h.cat, m h.src, m h.keys, m h.sums, m h.sel, m h.ord, h.row.of_block (hb.block _ h.row.lt), fun i hi => m (h.al i hi),
    ownsRow_move h.own (Nat.le_refl _) (fun j _ hj => hb.block j hj), m h.h1, m h.h2, m h.plan, h.len, h.dlo, m h.drow, fun i hi => by
      obtain ⟨T, a, b, ht⟩ := h.tab i hi
      exact ⟨T, a, b, ht.kept hk⟩, ownsRow_move h.down (Nat.le_refl _) (fun j _ hj => hb.block j hj), h.e1, h.e2, m h.r1, m h.r2, h.q1.kept hk, h.q2.kept hk, h.far, h.farA⟩

theorem GivD.had (h : GivD w w' G tG tC tA tS tI tT tN tL tR ts q db db' bc bf bk bu be bo bw bp bd v vr u1 u2 A k1 k2 s1 s2 x1 x2) {d : Option Addr} {wd : World} (hd : DbAt wd d db) : DbHad w' (some ⟨bd, 0, none⟩) db' := by
  have hl := h.len
  have hth : ∀ i, i < db'.length → RowsHad w' (db'.getD i rz).ad (db'.getD i rz).rs := fun i hi => by
    obtain ⟨T, a, b, ht⟩ := h.tab i hi
    exact ht.had (hd.2.2 i (by omega)).1 (fun j hj => ((hd.2.2 i (by omega)).2.2 j hj).1)
  refine ⟨⟨by have := hd.1; omega, fun i hi => ⟨bd, 0, rfl, ?_⟩, fun i hi => (hth i hi).1⟩, hth⟩
  rw [Nat.zero_add, h.drow.cell i, List.getElem?_toArray, List.getElem?_append_left (by simpa using hi), List.getElem?_map]
  show _ = some (db'.getD i rz).val
  simp [List.getD, hi]

/-- A world like w, with nothing in it. -/
def emptyW (w : World) : World := { w with heap := #[] }

/-- It reads so still where the blocks that were made for it stay. -/
theorem GivD.later (h : GivD w w' G tG tC tA tS tI tT tN tL tR ts q db db' bc bf bk bu be bo bw bp bd v vr u1 u2 A k1 k2 s1 s2 x1 x2) {w'' : World} (hs : w'.heap.size ≤ w''.heap.size) (hk : ∀ b, w.heap.size ≤ b → b < w'.heap.size → w''.heap[b]? = w'.heap[b]?) : GivD (emptyW w'') w'' G tG tC tA tS tI tT tN tL tR ts q db db' bc bf bk bu be bo bw bp bd v vr u1 u2 A k1 k2 s1 s2 x1 x2 := by
  have m : ∀ {b t : Nat} {c : Array Value}, GB w' b t c → w.heap.size ≤ b → GB w'' b t c := fun g hl => g.of (hk _ hl g.lt)
  have hd := h.dlo
  obtain ⟨f1, f2, f3, f4, f5, f6, f7, f8, f9, f10, f11, f12⟩ := h.far
  have hk2 : ∀ b, bd < b → b < w'.heap.size → w''.heap[b]? = w'.heap[b]? := fun b hl hb => hk b (by omega) hb
  exact ⟨⟨rfl, rfl, rfl, Nat.zero_le _, fun k hk => absurd hk (by simp [emptyW])⟩, Nat.zero_le _, m h.g h.lo, m h.cat f1, m h.src f2, m h.keys f3, m h.sums f4, m h.sel f5, m h.ord f6, h.row.of_block (hk _ f7 h.row.lt), fun i hi => m (h.al i hi) (h.farA i hi),
    ownsRow_move h.own (Nat.zero_le _) (fun j hj hl => hk j hj hl), m h.h1 f9, m h.h2 f10, m h.plan f8, h.len, Nat.zero_le _, m h.drow hd, fun i hi => by
      obtain ⟨T, a, b, ht⟩ := h.tab i hi
      exact ⟨T, a, b, ht.kept hk2⟩, ownsRow_move h.down (Nat.zero_le _) (fun j hj hl => hk j hj hl), h.e1, h.e2, m h.r1 f11, m h.r2 f12, h.q1.kept hk2, h.q2.kept hk2, ⟨Nat.zero_le _, Nat.zero_le _, Nat.zero_le _, Nat.zero_le _, Nat.zero_le _, Nat.zero_le _, Nat.zero_le _, Nat.zero_le _, Nat.zero_le _, Nat.zero_le _, Nat.zero_le _, Nat.zero_le _⟩, fun _ _ => Nat.zero_le _⟩

/-- The lent database holds what the database holds. -/
theorem GivD.same (h : GivD w w' G tG tC tA tS tI tT tN tL tR ts q db db' bc bf bk bu be bo bw bp bd v vr u1 u2 A k1 k2 s1 s2 x1 x2) : ∀ i, i < db.length → (db'.getD i rz).rs.length = (db.getD i rz).rs.length ∧ ∀ j, j < (db.getD i rz).rs.length → ((db'.getD i rz).rs.getD j iz).xs = ((db.getD i rz).rs.getD j iz).xs := fun i hi => by
  obtain ⟨T, a, b, ht⟩ := h.tab i (by have := h.len; omega)
  refine ⟨ht.len, fun j hj => ?_⟩
  obtain ⟨B, e, _⟩ := ht.rows j hj
  rw [e]

end Go.Scout
namespace Go.Proofs.YtlpbelhfpoilpaaGreat
open Go.RowKit Go.Scout

variable {w w' : World} {G tG tC tA tS tI tT tN tL tR : Nat} {ts : List TableD} {q : QueryV} {db db' : List RowsV} {bc bf bk bu be bo bw bp bd : Nat} {v vr u1 u2 : Value} {A : Nat → Nat} {k1 k2 s1 s2 : Nat} {x1 x2 : Value}

theorem GivD_query (h : GivD w w' G tG tC tA tS tI tT tN tL tR ts q db db' bc bf bk bu be bo bw bp bd v vr u1 u2 A k1 k2 s1 s2 x1 x2) {wd : World} (hq : q.At wd) : (lentQ q bf bk bu be bo bw A).At w' :=
  ⟨lentAt h.src hq.src.1, lentRow rfl h.row (fun i hi => by rw [if_pos hi]) h.al hq.wh.1 (fun i hi => (hq.wh.2.2 i hi).1), lentAt h.keys hq.keys.1, lentAt h.sums hq.sums.1, lentAt h.sel hq.sel.1, lentAt h.ord hq.ord.1⟩

end Go.Proofs.YtlpbelhfpoilpaaGreat

namespace Go.Proofs.YtlpbelhfpoilpaaGreat
open Go.RowKit Go.Scout

set_option maxRecDepth 20000 in
set_option maxHeartbeats 8000000 in
theorem giveD_any (ao d : Option Addr) (cap dcap : Nat) (ts : List TableD) (q : QueryV) (db : List RowsV) (w : World) (hx : TablesAt w ao ts) (hq : q.At w) (hd : DbAt w d db) (hsz : ts.length * 48 ≤ 140737488351232)
    (z1 : q.src.xs.length * 8 ≤ 140737488351232) (z2 : q.keys.xs.length * 8 ≤ 140737488351232) (z3 : q.sums.xs.length * 8 ≤ 140737488351232) (z4 : q.sel.xs.length * 8 ≤ 140737488351232) (z5 : q.ord.xs.length * 8 ≤ 140737488351232)
    (z6 : q.wh.length * 24 ≤ 140737488351232) (z7 : ∀ i, i < q.wh.length → (q.wh.getD i lz).cs.length * 40 ≤ 140737488351232)
    (y1 : db.length * 24 ≤ 140737488351232) (y2 : ∀ i, i < db.length → (db.getD i rz).rs.length * 24 ≤ 140737488351232) (y3 : ∀ i, i < db.length → ∀ j, j < (db.getD i rz).rs.length → ((db.getD i rz).rs.getD j iz).xs.length * 8 ≤ 140737488351232) :
    Calls Tryz.prog 6 #[.slice ao ts.length cap, .agg q.cells, .slice none 0 0, .slice d db.length dcap] w fun e w' => ∃ G bc bf bk bu be bo bw bp bd v vr u1 u2 A k1 k2 s1 s2 x1 x2 db', e = .returned (.pointer (some ⟨G, 0, none⟩)) ∧
      GivD w w' G 43 76 74 78 3 54 51 29 23 ts q db db' bc bf bk bu be bo bw bp bd v vr u1 u2 A k1 k2 s1 s2 x1 x2 := by
  have HTB : Hid _ := And.intro hd (And.intro y1 (And.intro y2 y3))
  clear y1 y2 y3 hd
  have hmk := makeTabs ts.length hsz
  have hl := hx.1
  obtain ⟨src, wad, wcap, wh, group, keys, sums, sel, ord⟩ := q
  have hsrc : IntsAt w src.ad src.xs := hq.src
  have hkeys : IntsAt w keys.ad keys.xs := hq.keys
  have hsums : IntsAt w sums.ad sums.xs := hq.sums
  have hsel : IntsAt w sel.ad sel.xs := hq.sel
  have hord : IntsAt w ord.ad ord.xs := hq.ord
  have hwh : ClausesAt w wad wh := hq.wh
  clear hq
  simp only at z1 z2 z3 z4 z5 z6 z7
  unfold QueryV.cells IntsV.val
  simp only
  have hcp := fun (o1 o2 : Obj) (ty : TypeId) => copyTabs w ((w.alloc o1).alloc o2) (w.heap.size + 1 + 1) ao cap ts hx (Below.step (below_alloc _ _) (below_alloc _ _)) (by simp) ty
  have hs1 := fun (o1 o2 : Obj) => setCell_tabs1 ((w.alloc o1).alloc o2) (w.heap.size + 1 + 1) ts 54 (by simp)
  have hs2 := fun (o1 o2 : Obj) => setCell_tabs2 ((w.alloc o1).alloc o2) (w.heap.size + 1 + 1) ts 54 (by simp)
  have ha1 := fun (o1 o2 : Obj) => cell_tabs1 ((w.alloc o1).alloc o2) (w.heap.size + 1 + 1) ts 54 (by simp)
  have ha2 := fun (o1 o2 : Obj) => cell_tabs2 ((w.alloc o1).alloc o2) (w.heap.size + 1 + 1) ts 54 (by simp)
  go_enter Tryz.func6, Tryz.ntmps6
  go_wp2_with fail
  refine (lend_pre (Pre.start w _ _ _ _) src.ad src.cap src.xs hsrc z1).mono ?_
  clear hmk hcp hs1 hs2 ha1 ha2 hx
  have hGB : ¬ w.heap.size = w.heap.size + 1 := by omega
  have hGB' : ¬ w.heap.size + 1 = w.heap.size := by omega
  rintro e w1 ⟨b1, rfl, P1⟩
  have p1 := P1.g.cell 1
  have p1' := P1.g.frozen 1
  have p2 := (P1.at (b := w.heap.size) (List.Mem.tail _ (List.Mem.tail _ (List.Mem.head _)))).cell 3
  simp at p1 p2
  go_wp2_with fail
  refine (lend_pre (P1.store 1 _) keys.ad keys.cap keys.xs hkeys z2).mono ?_
  clear P1 p1 p1' p2
  rintro e w2 ⟨b2, rfl, P2⟩
  simp only [List.setIfInBounds_toArray, List.set_cons_succ, List.set_cons_zero] at P2
  have p1 := P2.g.cell 4
  have p1' := P2.g.frozen 4
  have p2 := (P2.at (b := w.heap.size) (List.Mem.tail _ (List.Mem.tail _ (List.Mem.tail _ (List.Mem.head _))))).cell 4
  simp at p1 p2
  go_wp2_with fail
  refine (lend_pre (P2.store 4 _) sums.ad sums.cap sums.xs hsums z3).mono ?_
  clear P2 p1 p1' p2
  rintro e w3 ⟨b3, rfl, P3⟩
  simp only [List.setIfInBounds_toArray, List.set_cons_succ, List.set_cons_zero] at P3
  have p1 := P3.g.cell 5
  have p1' := P3.g.frozen 5
  have p2 := (P3.at (b := w.heap.size) (List.Mem.tail _ (List.Mem.tail _ (List.Mem.tail _ (List.Mem.tail _ (List.Mem.head _)))))).cell 5
  simp at p1 p2
  go_wp2_with fail
  refine (lend_pre (P3.store 5 _) sel.ad sel.cap sel.xs hsel z4).mono ?_
  clear P3 p1 p1' p2
  rintro e w4 ⟨b4, rfl, P4⟩
  simp only [List.setIfInBounds_toArray, List.set_cons_succ, List.set_cons_zero] at P4
  have p1 := P4.g.cell 6
  have p1' := P4.g.frozen 6
  have p2 := (P4.at (b := w.heap.size) (List.Mem.tail _ (List.Mem.tail _ (List.Mem.tail _ (List.Mem.tail _ (List.Mem.tail _ (List.Mem.head _))))))).cell 6
  simp at p1 p2
  go_wp2_with fail
  refine (lend_pre (P4.store 6 _) ord.ad ord.cap ord.xs hord z5).mono ?_
  clear P4 p1 p1' p2
  rintro e w5 ⟨b5, rfl, P5⟩
  simp only [List.setIfInBounds_toArray, List.set_cons_succ, List.set_cons_zero] at P5
  have p1 := P5.g.cell 7
  have p1' := P5.g.frozen 7
  have p2 := (P5.at (b := w.heap.size) (List.Mem.tail _ (List.Mem.tail _ (List.Mem.tail _ (List.Mem.tail _ (List.Mem.tail _ (List.Mem.tail _ (List.Mem.head _)))))))).cell 1
  simp at p1 p2
  go_wp2_with fail
  have P6 := P5.store 7 (.slice (some ⟨b5, 0, none⟩) ord.xs.length (ord.xs.length + 2))
  simp only [List.setIfInBounds_toArray, List.set_cons_succ, List.set_cons_zero] at P6
  clear P5 p1 p1' p2
  generalize w5.setCell ⟨w.heap.size + 1, 7, none⟩ (.slice (some ⟨b5, 0, none⟩) ord.xs.length (ord.xs.length + 2)) = w6 at *
  refine (clauses_any w w6 (w.heap.size + 1) wad wcap wh _ _ _ _ _ _ _ _ _ _ _ _ _ _ _ hwh z6 z7 P6.bel P6.lo P6.g).mono ?_
  rintro e w7 ⟨rfl, v, A, k1, k2, C⟩
  have hG6 := P6.g.lt
  obtain ⟨c7, hc7, P7⟩ : ∃ c, c = _ ∧ Pre w w7 (w.heap.size + 1) 43 c _ := ⟨_, rfl, P6.move C.bel C.oth C.g⟩
  have hmk := makeNodes2
  have hGlt := P7.g.lt
  have hlo := P7.lo
  have p1 : w7.cell? ⟨w.heap.size + 1, 13, none⟩ = some (.slice none 0 0) := by rw [P7.g.cell 13, hc7]; rfl
  have p1' := P7.g.frozen 13
  have hcs : (c7.setIfInBounds 13 (.slice (some ⟨w7.heap.size, 0, none⟩) 2 2))[13]? = some (.slice (some ⟨w7.heap.size, 0, none⟩) 2 2) := by rw [hc7]; rfl
  have hc8 : (c7.setIfInBounds 13 (.slice (some ⟨w7.heap.size, 0, none⟩) 2 2))[8]? = some (.slice none 0 0) := by rw [hc7]; rfl
  have HC7 : Hid _ := hc7
  clear P6 hc7
  go_wp2
  go_loopw [10] (fun i wr => i = .int .i64 0 ∧ Below w.heap.size w wr ∧ (∀ j, j < w7.heap.size → j ≠ w.heap.size + 1 → wr.heap[j]? = w7.heap[j]?) ∧ w7.heap.size < wr.heap.size ∧
    GB wr (w.heap.size + 1) 43 (c7.setIfInBounds 13 (.slice (some ⟨w7.heap.size, 0, none⟩) 2 2)) ∧ GB wr w7.heap.size 51 (zn ++ zn).toArray) (fun _ _ => 0)
  case atStart =>
    have hb1 := P7.bel.setCell (p := ⟨w.heap.size + 1, 13, none⟩) P7.lo (.slice (some ⟨w7.heap.size, 0, none⟩) 2 2)
    refine ⟨rfl, hb1.alloc hb1.size _, fun j hj hne => ?_, by simp, ?_, ?_⟩
    · rw [heap_alloc (by simpa using hj), heap_setCell hne]
    · exact (P7.g.set 13 (.slice (some ⟨w7.heap.size, 0, none⟩) 2 2)).of (heap_alloc (by simpa using hGlt))
    · have := heap_alloc_new (w7.setCell ⟨w.heap.size + 1, 13, none⟩ (.slice (some ⟨w7.heap.size, 0, none⟩) 2 2)) (.cells (zn ++ zn).toArray 51)
      rw [World.size_setCell] at this
      exact this
  case round =>
    obtain ⟨rfl, hbr, hoth, hsz', hg, hrow⟩ := hrel
    have h13 : wr.cell? ⟨w.heap.size + 1, 13, none⟩ = some (.slice (some ⟨w7.heap.size, 0, none⟩) 2 2) := by rw [hg.cell 13, hcs]
    have h8 : wr.cell? ⟨w.heap.size + 1, 8, none⟩ = some (.slice none 0 0) := by rw [hg.cell 8, hc8]
    have f8 := hg.frozen 8
    have r0 : wr.cell? ⟨w7.heap.size, 0, none⟩ = some (.int .i64 0) := by rw [hrow.cell 0]; rfl
    have r7 : wr.cell? ⟨w7.heap.size, 7, none⟩ = some (.int .i64 0) := by rw [hrow.cell 7]; rfl
    have e0 := hrow.frozen 0
    have e7 := hrow.frozen 7
    have hGW : ¬ w7.heap.size = w.heap.size + 1 := by omega
    have hGW' : ¬ w.heap.size + 1 = w7.heap.size := by omega
    clear p1 p1' hcs hc8 hmk
    go_wp2_with fail
    have hb8 : Below w.heap.size w (((wr.setCell ⟨w7.heap.size, 0, none⟩ (.int .i64 77777)).setCell ⟨w7.heap.size, 7, none⟩ (.int .i64 77777)).setCell ⟨w.heap.size + 1, 8, none⟩ (.slice (some ⟨w7.heap.size, 0, none⟩) 0 2)) :=
      ((hbr.setCell (p := ⟨w7.heap.size, 0, none⟩) (by show w.heap.size ≤ w7.heap.size; omega) _).setCell (p := ⟨w7.heap.size, 7, none⟩) (by show w.heap.size ≤ w7.heap.size; omega) _).setCell (p := ⟨w.heap.size + 1, 8, none⟩) hlo _
    have ho8 : ∀ j, j < w7.heap.size → j ≠ w.heap.size + 1 → (((wr.setCell ⟨w7.heap.size, 0, none⟩ (.int .i64 77777)).setCell ⟨w7.heap.size, 7, none⟩ (.int .i64 77777)).setCell ⟨w.heap.size + 1, 8, none⟩ (.slice (some ⟨w7.heap.size, 0, none⟩) 0 2)).heap[j]? = w7.heap[j]? := fun j hj hne => by
      rw [heap_setCell hne, heap_setCell (by show j ≠ w7.heap.size; omega), heap_setCell (by show j ≠ w7.heap.size; omega)]
      exact hoth j hj hne
    have hg8 : GB (((wr.setCell ⟨w7.heap.size, 0, none⟩ (.int .i64 77777)).setCell ⟨w7.heap.size, 7, none⟩ (.int .i64 77777)).setCell ⟨w.heap.size + 1, 8, none⟩ (.slice (some ⟨w7.heap.size, 0, none⟩) 0 2)) (w.heap.size + 1) 43 _ :=
      GB.set (hg.of (by rw [heap_setCell (by show w.heap.size + 1 ≠ w7.heap.size; omega), heap_setCell (by show w.heap.size + 1 ≠ w7.heap.size; omega)])) 8 (.slice (some ⟨w7.heap.size, 0, none⟩) 0 2)
    have hp8 : GB (((wr.setCell ⟨w7.heap.size, 0, none⟩ (.int .i64 77777)).setCell ⟨w7.heap.size, 7, none⟩ (.int .i64 77777)).setCell ⟨w.heap.size + 1, 8, none⟩ (.slice (some ⟨w7.heap.size, 0, none⟩) 0 2)) w7.heap.size 51 (nk ++ nk).toArray :=
      ((hrow.set 0 (.int .i64 77777)).set 7 (.int .i64 77777)).of (heap_setCell (by show w7.heap.size ≠ w.heap.size + 1; omega))
    generalize (((wr.setCell ⟨w7.heap.size, 0, none⟩ (.int .i64 77777)).setCell ⟨w7.heap.size, 7, none⟩ (.int .i64 77777)).setCell ⟨w.heap.size + 1, 8, none⟩ (.slice (some ⟨w7.heap.size, 0, none⟩) 0 2)) = w8 at *
    rw [HC7.out] at hg8
    simp only [List.setIfInBounds_toArray, List.set_cons_succ, List.set_cons_zero] at hg8
    have P8 := P7.move hb8 ho8 hg8
    refine (tables_any w w8 (w.heap.size + 1) d dcap db _ _ _ _ _ _ _ _ _ _ _ _ _ _ _ HTB.out.1 HTB.out.2.1 HTB.out.2.2.1 HTB.out.2.2.2 hb8 hlo hg8).mono ?_
    rintro e w9 ⟨rfl, db', vr, u1, u2, s1, s2, x1, x2, T⟩
    have P9 := P8.move T.bel T.oth T.g
    clear h13 h8 f8 r0 r7 e0 e7 hGW hGW' hg8 P8 hg hrow hoth hbr
    have ho9 : ∀ j, j < w7.heap.size → j ≠ w.heap.size + 1 → w9.heap[j]? = w7.heap[j]? := fun j hj hne => (T.oth j (by have := hp8.lt; omega) hne).trans (ho8 j hj hne)
    have HO : Hid _ := ho9
    have HP : Hid _ := hp8
    clear ho8 ho9 hp8
    go_wp2
    go_ret
    have ho9 := HO.out
    refine ⟨w.heap.size + 1, w.heap.size + 2, b1, b2, b3, b4, b5, w6.heap.size, w7.heap.size, w8.heap.size, v, vr, u1, u2, A, k1, k2, s1, s2, x1, x2, db', rfl, ⟨P9.bel, P9.lo, P9.g, P9.at (List.Mem.tail _ (List.Mem.tail _ (List.Mem.tail _ (List.Mem.tail _ (List.Mem.tail _ (List.Mem.head _)))))), P9.at (List.Mem.tail _ (List.Mem.tail _ (List.Mem.tail _ (List.Mem.tail _ (List.Mem.head _))))), P9.at (List.Mem.tail _ (List.Mem.tail _ (List.Mem.tail _ (List.Mem.head _)))), P9.at (List.Mem.tail _ (List.Mem.tail _ (List.Mem.head _))), P9.at (List.Mem.tail _ (List.Mem.head _)), P9.at (List.Mem.head _), ?_, fun i hi => ?_, ?_, ?_, ?_, ?_, T.len, hb8.size, T.row, T.tab, ownsRow_move T.own (by have := hb8.size; omega) (fun _ _ _ => rfl), T.e1, T.e2, T.r1, T.r2, T.k1, T.k2, ⟨(P9.bs (_, _) (List.Mem.tail _ (List.Mem.tail _ (List.Mem.tail _ (List.Mem.tail _ (List.Mem.tail _ (List.Mem.head _))))))).2.1, (P9.bs (_, _) (List.Mem.tail _ (List.Mem.tail _ (List.Mem.tail _ (List.Mem.tail _ (List.Mem.head _)))))).2.1, (P9.bs (_, _) (List.Mem.tail _ (List.Mem.tail _ (List.Mem.tail _ (List.Mem.head _))))).2.1, (P9.bs (_, _) (List.Mem.tail _ (List.Mem.tail _ (List.Mem.head _)))).2.1, (P9.bs (_, _) (List.Mem.tail _ (List.Mem.head _))).2.1, (P9.bs (_, _) (List.Mem.head _)).2.1, by have := hG6; have := hlo; omega, P7.bel.size, by have := C.k1.1; have := hG6; have := hlo; omega, by have := C.k2.1; have := hG6; have := hlo; omega, by have := T.l1; have := hb8.size; omega, by have := T.l2; have := hb8.size; omega⟩, fun i hi => by have := (C.al i hi).1; have := hG6; have := hlo; omega⟩⟩
    · exact C.row.of_block (ho9 _ C.siz (by omega))
    · have hA := C.al i hi
      exact hA.2.of (ho9 _ hA.2.lt (by omega))
    · exact ownsRow_move C.own (by have := P7.bel.size; have := hG6; omega) (fun j h1 h2 => ho9 j h2 (by omega))
    · exact C.k1.2.of (ho9 _ C.k1.2.lt (by have := C.k1.1; omega))
    · exact C.k2.2.of (ho9 _ C.k2.2.lt (by have := C.k2.1; omega))
    · have hp8 : GB w8 w7.heap.size 51 (nk ++ nk).toArray := HP.out
      exact hp8.of (T.oth _ hp8.lt (by omega))

end Go.Proofs.YtlpbelhfpoilpaaGreat

namespace Go.Proofs.YtlpbelhfpoilpaaGreat
open Go.RowKit Go.Scout

set_option maxRecDepth 20000 in
set_option maxHeartbeats 4000000 in
theorem sameWhere_true (ao bo : Option Addr) (cap cap' : Nat) (ls ms : List ClauseV) (w : World) (hx : ClausesAt w ao ls) (hy : ClausesAt w bo ms) (he : ls.length = ms.length) (hcs : ∀ i, i < ls.length → (ls.getD i lz).cs = (ms.getD i lz).cs) :
    Calls Tryz.prog 28 #[.slice ao ls.length cap, .slice bo ms.length cap'] w fun e w' => e = .returned (.bool true) ∧ Below w.heap.size w w' := by
  have hl := hx.1
  rw [← he]
  have hne : ((ls.length : Int) != ls.length) = false := by simp
  go_enter Tryz.func28, Tryz.ntmps28
  go_wp2
  go_loopw [5] (fun i wr => ∃ k : Nat, k ≤ ls.length ∧ i = .int .i64 k ∧ ∃ n, wr = w.drewN n) (fun i _ => ls.length - (intOf i).toNat)
  case atStart => exact ⟨0, Nat.zero_le _, rfl, 0, rfl⟩
  case round =>
    obtain ⟨k, hk, rfl, n, rfl⟩ := hrel
    by_cases hlt : k < ls.length
    · obtain ⟨b, off, rfl, hc⟩ := hx.2.1.get hlt
      obtain ⟨b', off', rfl, hc'⟩ := hy.2.1.get (show k < ms.length by omega)
      have h1 := hc k hlt
      have h2 := hc' k (by omega)
      have hd1 := hx.2.2 k hlt
      have hd2 := hy.2.2 k (by omega)
      have hee := hcs k hlt
      clear hc hc' hx hy hcs
      generalize ls.getD k lz = c1 at *
      generalize ms.getD k lz = c2 at *
      obtain ⟨ad1, cp1, cs1⟩ := c1
      obtain ⟨ad2, cp2, cs2⟩ := c2
      simp only at hee hd1 hd2
      subst hee
      unfold ClauseV.val at h1 h2
      simp only at h1 h2
      have hcl := hd1.1
      have hnn : ((cs1.length : Int) != cs1.length) = false := by simp
      go_wp2
      go_quiet (fail)
      go_wp2
      go_loopw [6] (fun i wr => ∃ m : Nat, m ≤ cs1.length ∧ i = .int .i64 m ∧ ∃ n, wr = w.drewN n) (fun i _ => cs1.length - (intOf i).toNat)
      case atStart => exact ⟨0, Nat.zero_le _, rfl, _, World.drewN_drewN _ _ _⟩
      case round =>
        obtain ⟨m, hm, rfl, n2, rfl⟩ := hrel
        by_cases hml : m < cs1.length
        · obtain ⟨b3, off3, rfl, e0, e1, e2, e3, e4⟩ := hd1.2 m hml
          obtain ⟨b4, off4, rfl, i0, i1, i2, i3, i4⟩ := hd2.2 m hml
          generalize cs1.getD m cz = cc at *
          clear hd1 hd2
          go_wp2
          go_quiet (fail)
          go_wp2
          go_roundw
          case rel => exact ⟨m + 1, by omega, by go_num, _, rfl⟩
          case measure => simp [intOf]; omega
        · go_wp2
          go_roundw
          case rel => exact ⟨k + 1, by omega, by go_num, _, rfl⟩
          case measure => simp [intOf]; omega
    · go_wp2
      go_ret
      exact ⟨rfl, below_drewN (Below.refl _ _) _⟩

end Go.Proofs.YtlpbelhfpoilpaaGreat

namespace Go.Scout
open Go.RowKit

/-- A node of a plan, with the addresses of its lists. -/
structure NodeV where
  kind : Int
  l : Int
  r : Int
  source : Int
  cl : IntsV
  key : Int
  co : IntsV

def nz : NodeV := ⟨0, 0, 0, 0, ⟨none, 0, []⟩, 0, ⟨none, 0, []⟩⟩

def NodesAt (w : World) (ao : Option Addr) (ns : List NodeV) : Prop :=
  ns.length ≤ 164703072086692425 ∧ ∀ i, i < ns.length → ∃ b off, ao = some ⟨b, off, none⟩ ∧
    w.cell? ⟨b, off + i * 7, none⟩ = some (.int .i64 (ns.getD i nz).kind) ∧ w.cell? ⟨b, off + i * 7 + 1, none⟩ = some (.int .i64 (ns.getD i nz).l) ∧
    w.cell? ⟨b, off + i * 7 + 2, none⟩ = some (.int .i64 (ns.getD i nz).r) ∧ w.cell? ⟨b, off + i * 7 + 3, none⟩ = some (.int .i64 (ns.getD i nz).source) ∧
    w.cell? ⟨b, off + i * 7 + 4, none⟩ = some (ns.getD i nz).cl.val ∧ w.cell? ⟨b, off + i * 7 + 5, none⟩ = some (.int .i64 (ns.getD i nz).key) ∧
    w.cell? ⟨b, off + i * 7 + 6, none⟩ = some (ns.getD i nz).co.val ∧ (ns.getD i nz).cl.At w ∧ (ns.getD i nz).co.At w

/-- The same but for where its lists lie. -/
def NodeV.same (a b : NodeV) : Prop := a.kind = b.kind ∧ a.l = b.l ∧ a.r = b.r ∧ a.source = b.source ∧ a.cl.xs = b.cl.xs ∧ a.key = b.key ∧ a.co.xs = b.co.xs

end Go.Scout
namespace Go.Proofs.YtlpbelhfpoilpaaGreat
open Go.RowKit Go.Scout

theorem ints_drewN {w : World} {ao : Option Addr} {xs : List Int} (h : IntsAt w ao xs) (n : Nat) : IntsAt (w.drewN n) ao xs := h.below (below_drewN (Below.refl _ _) _)

theorem sameInts_drawn (ao bo : Option Addr) (cap cap' : Nat) (xs : List Int) (w : World) (n m : Nat) (hx : IntsAt w ao xs) (hy : IntsAt w bo xs) :
    Calls Tryz.prog 32 #[.slice ao xs.length cap, .slice bo xs.length cap'] (w.drewN (n + m)) fun e w'' => e = .returned (.bool true) ∧ ∃ m', w'' = w.drewN (n + m') :=
  (sameInts_any ao bo cap cap' xs (w.drewN (n + m)) (ints_drewN hx _) (ints_drewN hy _)).mono fun _ _ ⟨he, k', hk'⟩ => ⟨he, m + k', by rw [hk', World.drewN_drewN, Nat.add_assoc]⟩

set_option maxRecDepth 20000 in
set_option maxHeartbeats 8000000 in
theorem samePlan_true (ao bo : Option Addr) (cap cap' : Nat) (ns ms : List NodeV) (w : World) (hx : NodesAt w ao ns) (hy : NodesAt w bo ms) (he : ns.length = ms.length) (hs : ∀ i, i < ns.length → (ns.getD i nz).same (ms.getD i nz)) :
    Calls Tryz.prog 30 #[.slice ao ns.length cap, .slice bo ms.length cap'] w fun e w' => e = .returned (.bool true) ∧ Below w.heap.size w w' := by
  have hl := hx.1
  rw [← he]
  have HE : Hid (ns.length = ms.length) := he
  clear he
  have hne : ((ns.length : Int) != ns.length) = false := by simp
  go_enter Tryz.func30, Tryz.ntmps30
  go_wp2
  go_loopw [5] (fun i wr => ∃ k : Nat, k ≤ ns.length ∧ i = .int .i64 k ∧ ∃ n, wr = w.drewN n) (fun i _ => ns.length - (intOf i).toNat)
  case atStart => exact ⟨0, Nat.zero_le _, rfl, 0, rfl⟩
  case round =>
    obtain ⟨k, hk, rfl, n, rfl⟩ := hrel
    by_cases hlt : k < ns.length
    · obtain ⟨b, off, rfl, c0, c1, c2, c3, c4, c5, c6, i1, i2⟩ := hx.2 k hlt
      obtain ⟨b', off', rfl, d0, d1, d2, d3, d4, d5, d6, j1, j2⟩ := hy.2 k (by have := HE.out; omega)
      obtain ⟨q0, q1, q2, q3, q4, q5, q6⟩ := hs k hlt
      clear hx hy hs
      generalize ns.getD k nz = x1 at *
      generalize ms.getD k nz = x2 at *
      obtain ⟨ka, la, ra, sa, ⟨ad1, cp1, xs1⟩, ya, ⟨ad2, cp2, xs2⟩⟩ := x1
      obtain ⟨kb, lb, rb, sb, ⟨ad3, cp3, xs3⟩, yb, ⟨ad4, cp4, xs4⟩⟩ := x2
      unfold IntsV.At at i1 i2 j1 j2
      unfold IntsV.val at c4 c6 d4 d6
      simp only at q0 q1 q2 q3 q4 q5 q6 i1 i2 j1 j2 c0 c1 c2 c3 c4 c5 c6 d0 d1 d2 d3 d4 d5 d6
      subst q0 q1 q2 q3 q4 q5 q6
      have t0 : (ka != ka) = false := by simp
      have t1 : (la != la) = false := by simp
      have t2 : (ra != ra) = false := by simp
      have t3 : (sa != sa) = false := by simp
      have t5 : (ya != ya) = false := by simp
      go_wp2
      refine wp_region_quiet_lit (by kernel_rfl) (by kernel_rfl) ?_
      repeat (go_big_quiet_step (fail))
      go_big_quiet_want
      refine ⟨.bool true, fun x hx => ?_, ?_⟩
      · obtain ⟨m, rfl⟩ := hx
        have hC := sameInts_drawn ad1 ad3 cp1 cp3 xs1 w n m i1 j1
        go_simp
      simp only [Act.put, List.setIfInBounds_toArray, List.set_cons_succ, List.set_cons_zero]
      go_big_quiet_on
      repeat (go_big_quiet_step (fail))
      refine wpQuiet_nil ?_
      intro x hx
      obtain ⟨m, rfl⟩ := hx
      rw [World.drewN_drewN]
      generalize n + m = n'
      go_wp2
      refine wp_region_quiet_lit (by kernel_rfl) (by kernel_rfl) ?_
      repeat (go_big_quiet_step (fail))
      go_big_quiet_want
      refine ⟨.bool true, fun x hx => ?_, ?_⟩
      · obtain ⟨m, rfl⟩ := hx
        have hC := sameInts_drawn ad2 ad4 cp2 cp4 xs2 w n' m i2 j2
        go_simp
      simp only [Act.put, List.setIfInBounds_toArray, List.set_cons_succ, List.set_cons_zero]
      go_big_quiet_on
      repeat (go_big_quiet_step (fail))
      refine wpQuiet_nil ?_
      intro x hx
      obtain ⟨m, rfl⟩ := hx
      rw [World.drewN_drewN]
      generalize n' + m = n2
      go_wp2
      go_quiet (fail)
      go_wp2
      go_roundw
      case rel => exact ⟨k + 1, by omega, by go_num, _, rfl⟩
      case measure => simp [intOf]; omega
    · go_wp2
      go_ret
      exact ⟨rfl, below_drewN (Below.refl _ _) _⟩

end Go.Proofs.YtlpbelhfpoilpaaGreat

