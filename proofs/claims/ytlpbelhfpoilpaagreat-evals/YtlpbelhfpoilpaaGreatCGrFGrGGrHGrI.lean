import Derived.WideKeyPair
import Derived.Maps.OwnIn
import Derived.Maps.Views
import Derived.Sort.CutIn
import Derived.Deep.RegionLaw
import Derived.Test.YtlpbelhfpoilpaaGreatCCatAItDItEBase4
import Derived.Test.YtlpbelhfpoilpaaGreatCBase5PickAItFPure0
import Derived.Test.YtlpbelhfpoilpaaGreatCGrAGrBGrCGrD
set_option linter.all false
namespace Go.Scout
open Go.RowKit Go.Maps Go.WideMaps

structure Gr where
  key : List Int
  cnt : Nat
  ss : List Int

def addG (row sc : List Int) (g : Gr) : Gr := ⟨g.key, g.cnt + 1, addsN g.ss row sc⟩
def newG (key : List Int) (n : Nat) : Gr := ⟨key, 0, List.replicate n 1073741824⟩
def findK (ks : List (List Int)) (key : List Int) : Option Nat := ks.findIdx? (fun k => decide (k = key))
def stepG (kc sc : List Int) (gs : List Gr) (row : List Int) : List Gr :=
  match findK (gs.map Gr.key) (pickN row kc) with
  | some i => gs.modify i (addG row sc)
  | none => gs ++ [addG row sc (newG (pickN row kc) sc.length)]
def startG (kc sc : List Int) : List Gr := if kc = [] then [newG [] sc.length] else []
def groupsN (kc sc : List Int) (rows : List (List Int)) : List Gr := rows.foldl (stepG kc sc) (startG kc sc)
def Gr.row (g : Gr) : List Int := g.key ++ [(g.cnt : Int)] ++ g.ss

/-- A group as it lies in memory. -/
structure GrV where
  gb : Nat
  sb : Nat
  k : IntsV
  cnt : Nat
  ss : List Int

def GrV.gr (g : GrV) : Gr := ⟨g.k.xs, g.cnt, g.ss⟩
def GrV.own (g : GrV) (b : Nat) : Prop := b = g.gb ∨ b = g.sb ∨ rowEl.blk g.k = some b
def GrV.ptr (g : GrV) : Value := .pointer (some ⟨g.gb, 0, none⟩)
def GrV.bump (row sc : List Int) (g : GrV) : GrV := ⟨g.gb, g.sb, g.k, g.cnt + 1, addsN g.ss row sc⟩

structure GrV.At (tg ti : TypeId) (n : Nat) (g : GrV) (W : World) : Prop where
  cells : W.heap[g.gb]? = some (.cells #[g.k.val, .int .i64 g.cnt, .slice (some ⟨g.sb, 0, none⟩) n n] tg)
  sums : W.heap[g.sb]? = some (.cells (g.ss.map (Value.int .i64)).toArray ti)
  key : rowEl.At g.k W
  len : g.ss.length = n
  ne : g.gb ≠ g.sb
  nk : rowEl.blk g.k ≠ some g.gb ∧ rowEl.blk g.k ≠ some g.sb

theorem GrV.At.keep {tg ti : TypeId} {n : Nat} {g : GrV} {A B : World} (h : g.At tg ti n A) {s : Nat → Prop} (hk : Kept s A B) (hs : ∀ b, g.own b → s b) : g.At tg ti n B :=
  ⟨(hk.block _ (Array.getElem?_eq_some_iff.1 h.cells).1 (hs _ (.inl rfl))).trans h.cells, (hk.block _ (Array.getElem?_eq_some_iff.1 h.sums).1 (hs _ (.inr (.inl rfl)))).trans h.sums,
    rowEl.keep h.key hk.size (fun b hb hbl => hk.block b hb (hs b (.inr (.inr hbl)))), h.len, h.ne, h.nk⟩

theorem GrV.At.lt {tg ti : TypeId} {n : Nat} {g : GrV} {A : World} (h : g.At tg ti n A) {b : Nat} (hb : g.own b) : b < A.heap.size := by
  rcases hb with rfl | rfl | hb
  · exact (Array.getElem?_eq_some_iff.1 h.cells).1
  · exact (Array.getElem?_eq_some_iff.1 h.sums).1
  · exact rowEl.inn h.key hb

/-- The groups that there are: the list of them in its box, each in its own memory. -/
structure Grps (tg ti tp : TypeId) (n base bg : Nat) (gs : List GrV) (W : World) (v : Value) : Prop where
  box : W.cell? ⟨bg, 0, none⟩ = some v
  thaw : W.frozen? ⟨bg, 0, none⟩ = false
  own : W.ownsRow base tp 1 v gs.length (gs.map GrV.ptr)
  at' : ∀ g ∈ gs, g.At tg ti n W
  off : ∀ g ∈ gs, ∀ b, g.own b → base ≤ b ∧ v.ownBlock ≠ some b
  apart : gs.Pairwise fun g h => ∀ b, g.own b → ¬ h.own b
  low : bg < base

def grpsOwn (bg : Nat) (v : Value) (gs : List GrV) (b : Nat) : Prop := b = bg ∨ v.ownBlock = some b ∨ ∃ g ∈ gs, g.own b

theorem Grps.keep {tg ti tp : TypeId} {n base bg : Nat} {gs : List GrV} {A B : World} {v : Value} (h : Grps tg ti tp n base bg gs A v) {s : Nat → Prop} (hk : Kept s A B) (hs : ∀ b, grpsOwn bg v gs b → s b) : Grps tg ti tp n base bg gs B v :=
  ⟨cell_keep h.box hk (hs _ (.inl rfl)), (World.frozen?_of_block (hk.block _ (cell_lt h.box) (hs _ (.inl rfl)))).trans h.thaw, ownsRow_keep h.own hk (fun g hg => hs _ (.inr (.inl hg))),
    fun g hg => (h.at' g hg).keep hk (fun b hb => hs _ (.inr (.inr ⟨g, hg, hb⟩))), h.off, h.apart, h.low⟩

theorem Grps.lt {tg ti tp : TypeId} {n base bg : Nat} {gs : List GrV} {A : World} {v : Value} (h : Grps tg ti tp n base bg gs A v) {b : Nat} (hb : grpsOwn bg v gs b) : b < A.heap.size := by
  rcases hb with rfl | hb | ⟨g, hg, hb⟩
  · exact cell_lt h.box
  · exact (ownsRow_lt h.own hb).2
  · exact (h.at' g hg).lt hb

/-- One group more. -/
theorem Grps.more {tg ti tp : TypeId} {n base bg : Nat} {gs : List GrV} {W W3 W4 W5 : World} {v v' : Value} (h : Grps tg ti tp n base bg gs W v) {g : GrV}
    (hb3 : Below W.heap.size W W3) (hg3 : g.At tg ti n W3) (hbase : ∀ b, g.own b → base ≤ b) (hnew : ∀ b, g.own b → ¬ grpsOwn bg v gs b)
    (hk4 : Kept (fun _ => True) W3 W4) (hown5 : W5.ownsRow base tp 1 v' (gs.length + 1) (gs.map GrV.ptr ++ [g.ptr])) (hg5 : W4.grownBy W5 v.ownBlock) (hat : v'.ownBlock = v.ownBlock ∨ v'.ownBlock = some W4.heap.size) :
    Grps tg ti tp n base bg (gs ++ [g]) (W5.setCell ⟨bg, 0, none⟩ v') v' ∧ Kept (fun b => b ≠ bg ∧ v.ownBlock ≠ some b) W (W5.setCell ⟨bg, 0, none⟩ v') ∧
    ∀ b, grpsOwn bg v' (gs ++ [g]) b → grpsOwn bg v gs b ∨ g.own b ∨ (W.heap.size ≤ b ∧ b < (W5.setCell ⟨bg, 0, none⟩ v').heap.size) := by
  have hk3 : Kept (fun b => b < W.heap.size) W W3 := Kept.of_below hb3 (fun b _ h => h)
  have hk5 : Kept (fun b => v.ownBlock ≠ some b) W4 W5 := Kept.grown hg5 (fun r e hr => hr e)
  have hk6 : Kept (fun b => b ≠ bg) W5 (W5.setCell ⟨bg, 0, none⟩ v') := Kept.setCell _ _ _ (fun h => h rfl)
  have hkW5 : Kept (fun b => v.ownBlock ≠ some b) W W5 := ((hk3.mono (t := fun b => v.ownBlock ≠ some b) (fun b hb _ => hb)).trans (hk4.mono fun _ _ _ => trivial)).trans hk5
  have hk : Kept (fun b => b ≠ bg ∧ v.ownBlock ≠ some b) W (W5.setCell ⟨bg, 0, none⟩ v') := (hkW5.mono fun _ _ h => h.2).trans (hk6.mono fun _ _ h => h.1)
  have hk36 : Kept (fun b => b ≠ bg ∧ v.ownBlock ≠ some b) W3 (W5.setCell ⟨bg, 0, none⟩ v') := ((hk4.mono fun _ _ _ => trivial).trans (hk5.mono fun _ _ h => h.2)).trans (hk6.mono fun _ _ h => h.1)
  have hvb : ∀ b, v.ownBlock = some b → base ≤ b ∧ b < W.heap.size := fun b hb => ownsRow_lt h.own hb
  have hvb' : ∀ b, v'.ownBlock = some b → base ≤ b ∧ b < W5.heap.size := fun b hb => ownsRow_lt hown5 hb
  have hbg : v.ownBlock ≠ some bg := fun e => by have := (hvb _ e).1; have := h.low; omega
  have hbg' : v'.ownBlock ≠ some bg := fun e => by have := (hvb' _ e).1; have := h.low; omega
  have hsz4 : W.heap.size ≤ W4.heap.size := Nat.le_trans hb3.size hk4.size
  have hsz : (W5.setCell ⟨bg, 0, none⟩ v').heap.size = W5.heap.size := by simp [World.setCell]
  have hbx : W5.cell? ⟨bg, 0, none⟩ = some v := cell_keep h.box hkW5 hbg
  refine ⟨⟨?_, ?_, ?_, ?_, ?_, ?_, h.low⟩, hk, ?_⟩
  · exact World.cell?_setCell_same' _ _ _ (by rw [hbx]; rfl)
  · rw [World.frozen?_setCell]
    exact (World.frozen?_of_block (hkW5.block _ (cell_lt h.box) hbg)).trans h.thaw
  · have := ownsRow_keep hown5 hk6 (fun g hg => by intro e; exact hbg' (e ▸ hg))
    simpa using this
  · intro x hx
    rcases List.mem_append.1 hx with hx | hx
    · refine (h.at' x hx).keep hk (fun b hb => ⟨fun e => ?_, (h.off x hx b hb).2⟩)
      have := (h.off x hx b hb).1; have := h.low; omega
    · rw [List.mem_singleton] at hx
      subst hx
      exact hg3.keep hk36 (fun b hb => ⟨fun e => hnew b hb (.inl e), fun e => hnew b hb (.inr (.inl e))⟩)
  · intro x hx b hb
    have hbl : base ≤ b ∧ v.ownBlock ≠ some b ∧ b < W3.heap.size := by
      rcases List.mem_append.1 hx with hx | hx
      · exact ⟨(h.off x hx b hb).1, (h.off x hx b hb).2, Nat.lt_of_lt_of_le ((h.at' x hx).lt hb) hb3.size⟩
      · rw [List.mem_singleton] at hx
        subst hx
        exact ⟨hbase b hb, fun e => hnew b hb (.inr (.inl e)), hg3.lt hb⟩
    refine ⟨hbl.1, fun e => ?_⟩
    rcases hat with h' | h'
    · exact hbl.2.1 (h' ▸ e)
    · rw [h'] at e
      cases e
      have := hk4.size
      omega
  · rw [List.pairwise_append]
    refine ⟨h.apart, List.pairwise_singleton _ _, ?_⟩
    intro x hx y hy b hb hb'
    rw [List.mem_singleton] at hy
    subst hy
    exact hnew b hb' (.inr (.inr ⟨x, hx, hb⟩))
  · rintro b (hb | hb | ⟨x, hx, hb⟩)
    · exact .inl (.inl hb)
    · rcases hat with h' | h'
      · exact .inl (.inr (.inl (h' ▸ hb)))
      · refine .inr (.inr ⟨?_, by rw [hsz]; exact (hvb' b hb).2⟩)
        rw [h'] at hb
        cases hb
        exact hsz4
    · rcases List.mem_append.1 hx with hx | hx
      · exact .inl (.inr (.inr ⟨x, hx, hb⟩))
      · rw [List.mem_singleton] at hx
        subst hx
        exact .inr (.inl hb)

/-- A row more in one of them. -/
theorem Grps.bump {tg ti tp : TypeId} {n base bg : Nat} {gs : List GrV} {W W' : World} {v : Value} (h : Grps tg ti tp n base bg gs W v) {i : Nat} (hi : i < gs.length) (row sc : List Int) (hl : (addsN gs[i].ss row sc).length = n)
    (hg : W'.heap[gs[i].gb]? = some (.cells #[gs[i].k.val, .int .i64 (gs[i].cnt + 1 : Nat), .slice (some ⟨gs[i].sb, 0, none⟩) n n] tg)) (hs : W'.heap[gs[i].sb]? = some (.cells ((addsN gs[i].ss row sc).map (Value.int .i64)).toArray ti))
    (hk : Kept (fun b => b ≠ gs[i].gb ∧ b ≠ gs[i].sb) W W') : Grps tg ti tp n base bg (gs.modify i (GrV.bump row sc)) W' v := by
  have hmem : gs[i] ∈ gs := List.getElem_mem hi
  have hA := h.at' _ hmem
  have hO := h.off _ hmem
  have hmod : ∀ x ∈ gs.modify i (GrV.bump row sc), ∃ y ∈ gs, x.own = y.own := by
    intro x hx
    obtain ⟨j, hj, rfl⟩ := List.getElem_of_mem hx
    rw [List.length_modify] at hj
    refine ⟨gs[j], List.getElem_mem hj, ?_⟩
    rw [List.getElem_modify]
    split <;> rfl
  refine ⟨?_, ?_, ?_, ?_, ?_, ?_, h.low⟩
  · exact cell_keep h.box hk ⟨fun e => by have h1 := (hO _ (.inl rfl)).1; have := h.low; have e' : bg = gs[i].gb := e; omega, fun e => by have h1 := (hO _ (.inr (.inl rfl))).1; have := h.low; have e' : bg = gs[i].sb := e; omega⟩
  · refine (World.frozen?_of_block (hk.block _ (cell_lt h.box) ⟨fun e => ?_, fun e => ?_⟩)).trans h.thaw
    · have h1 := (hO _ (.inl rfl)).1; have := h.low; have e' : bg = gs[i].gb := e; omega
    · have h1 := (hO _ (.inr (.inl rfl))).1; have := h.low; have e' : bg = gs[i].sb := e; omega
  · have hp : (gs.modify i (GrV.bump row sc)).map GrV.ptr = gs.map GrV.ptr := by
      apply List.ext_getElem (by simp)
      intro j h1 h2
      rw [List.getElem_map, List.getElem_map, List.getElem_modify]
      split <;> rfl
    rw [List.length_modify, hp]
    refine ownsRow_keep h.own hk (fun b hb => ⟨fun e => (hO _ (.inl rfl)).2 (e ▸ hb), fun e => (hO _ (.inr (.inl rfl))).2 (e ▸ hb)⟩)
  · intro x hx
    obtain ⟨j, hj, rfl⟩ := List.getElem_of_mem hx
    rw [List.length_modify] at hj
    rw [List.getElem_modify]
    by_cases e : i = j
    · subst e
      rw [if_pos rfl]
      refine ⟨hg, hs, rowEl.keep hA.key hk.size (fun b hb hbl => hk.block b hb ⟨fun e => hA.nk.1 (e ▸ hbl), fun e => hA.nk.2 (e ▸ hbl)⟩), hl, hA.ne, hA.nk⟩
    · rw [if_neg e]
      have hd : ∀ b, gs[i].own b → ¬ gs[j].own b := by
        rcases Nat.lt_or_gt_of_ne e with hlt | hgt
        · exact List.pairwise_iff_getElem.1 h.apart i j hi hj hlt
        · exact fun b h1 h2 => List.pairwise_iff_getElem.1 h.apart j i hj hi hgt b h2 h1
      exact (h.at' _ (List.getElem_mem hj)).keep hk (fun b hb => ⟨fun e => hd b (.inl e) hb, fun e => hd b (.inr (.inl e)) hb⟩)
  · intro x hx b hb
    obtain ⟨y, hy, e⟩ := hmod x hx
    rw [e] at hb
    exact h.off y hy b hb
  · rw [List.pairwise_iff_getElem]
    intro a c ha hc hac
    rw [List.length_modify] at ha hc
    have := List.pairwise_iff_getElem.1 h.apart a c ha hc hac
    rw [List.getElem_modify, List.getElem_modify]
    have e1 : ∀ (p : Prop) [Decidable p] (x : GrV), (if p then GrV.bump row sc x else x).own = x.own := fun p _ x => by split <;> rfl
    intro b
    rw [e1, e1]
    exact this b

end Go.Scout

namespace Go.Scout
open Go.RowKit Go.Maps Go.WideMaps

def smallI (x : Int) : Prop := -2147483648 ≤ x ∧ x ≤ 2147483648
theorem smallI_wf {x : Int} (h : smallI x) : (Lit.int .i64 x).wf = true := WalkArith.wf_i64 (by unfold smallI at h; omega)

def key4 (a b c d : Int) : Value := .agg #[.int .i64 a, .int .i64 b, .int .i64 c, .int .i64 d]
def keyArr (xs : List Int) : Value := key4 (xs.getD 0 0) (xs.getD 1 0) (xs.getD 2 0) (xs.getD 3 0)

theorem keyArr_inj {xs ys : List Int} (hl : xs.length = ys.length) (h4 : ys.length ≤ 4) (h : keyArr xs = keyArr ys) : xs = ys := by
  unfold keyArr key4 at h
  simp only [Value.agg.injEq, Array.mk.injEq, List.cons.injEq, Value.int.injEq, true_and, and_true] at h
  obtain ⟨h0, h1, h2, h3⟩ := h
  apply List.ext_getElem hl
  intro i hi hi'
  have e : ∀ (l : List Int) (h : i < l.length), l[i] = l.getD i 0 := fun l h => by simp [List.getD, h]
  rw [e xs hi, e ys hi']
  match i, hi' with
  | 0, _ => exact h0
  | 1, _ => exact h1
  | 2, _ => exact h2
  | 3, _ => exact h3
  | n + 4, h => omega

theorem keyOf_four {P : Program} {k e : TypeId} {q : IntKind} (A : ArrKey P k e 4) (he : P.underlying e = some (.int q)) (hsz : ∃ m, P.types.size = m + 1) {a b c d : Int} (wa : (Lit.int q a).wf = true) (wb : (Lit.int q b).wf = true) (wc : (Lit.int q c).wf = true) (wd : (Lit.int q d).wf = true) :
    keyOf P k (.agg #[.int q a, .int q b, .int q c, .int q d]) = some (.string (keyBytes [.int q a, .int q b, .int q c, .int q d])) := by
  have hkt := A.keyType hsz
  obtain ⟨m, hm⟩ := hsz
  unfold keyOf
  simp only [A.hu]
  rw [if_pos (by simp [hkt, Value.formed, A.hu, A.size]), hm]
  unfold Program.keyLits
  simp only [A.hu, Value.cells]
  rw [if_pos (by rw [A.size]; rfl), show List.range 4 = [0, 1, 2, 3] from rfl, List.mapM_cons, List.mapM_cons, List.mapM_cons, List.mapM_cons, List.mapM_nil]
  simp [A.one, Program.keyLits, he, wa, wb, wc, wd]

theorem getD_small {xs : List Int} (h : ∀ x ∈ xs, smallI x) (i : Nat) : smallI (xs.getD i 0) := by
  by_cases hi : i < xs.length
  · exact h _ (getD_in hi)
  · have : xs.getD i 0 = 0 := by simp [List.getD, List.getElem?_eq_none (Nat.le_of_not_lt hi)]
    rw [this]
    unfold smallI
    omega

theorem keyArr_key {P : Program} {k e : TypeId} (A : ArrKey P k e 4) (he : P.underlying e = some (.int .i64)) (hsz : ∃ m, P.types.size = m + 1) {xs : List Int} (h : ∀ x ∈ xs, smallI x) : ∃ l, keyOf P k (keyArr xs) = some l :=
  ⟨_, keyOf_four A he hsz (smallI_wf (getD_small h 0)) (smallI_wf (getD_small h 1)) (smallI_wf (getD_small h 2)) (smallI_wf (getD_small h 3))⟩

/-- What a map tells of one key. -/
structure TellsK (ks : List (List Int)) (D : DataW Unit) (xs : List Int) (l : Lit) : Prop where
  hit : ∀ i, findK ks xs = some i → Maps.has D l = true ∧ D.atKey l (.lit (.int .i64 0)) = .lit (.int .i64 i)
  miss : findK ks xs = none → Maps.has D l = false

/-- A map from keys to their numbers. -/
def MapAt (P : Program) (tk te : TypeId) (nk bm n : Nat) (ks : List (List Int)) (W : World) : Prop :=
  ∃ D : DataW Unit, W.ownsMap P tk (plainElem P te) bm n D ∧ ∀ xs l, xs.length = nk → keyOf P tk (keyArr xs) = some l → TellsK ks D xs l

theorem MapAt.keep {P : Program} {tk te : TypeId} {nk bm n : Nat} {ks : List (List Int)} {A B : World} (h : MapAt P tk te nk bm n ks A) (hb : B.heap[bm]? = A.heap[bm]?) : MapAt P tk te nk bm n ks B := by
  obtain ⟨D, ⟨es, clock, h1, h2⟩, hk⟩ := h
  exact ⟨D, ⟨es, clock, hb.trans h1, h2⟩, hk⟩

theorem MapAt.lt {P : Program} {tk te : TypeId} {nk bm n : Nat} {ks : List (List Int)} {A : World} (h : MapAt P tk te nk bm n ks A) : bm < A.heap.size := by
  obtain ⟨D, h1, _⟩ := h
  exact h1.lt

theorem MapAt.fresh (P : Program) (tk te : TypeId) (nk : Nat) (w : World) : MapAt P tk te nk w.heap.size 0 [] (w.alloc (.map #[] 0)) :=
  ⟨_, World.ownsMap_made w P tk _, fun xs l _ _ => ⟨fun i h => by simp [findK] at h, fun _ => rfl⟩⟩

theorem findK_snoc_other {ks : List (List Int)} {k xs : List Int} (h : k ≠ xs) : findK (ks ++ [k]) xs = findK ks xs := by
  unfold findK
  rw [List.findIdx?_append]
  cases hf : ks.findIdx? (fun k => decide (k = xs)) with
  | some i => simp
  | none => simp [h]

theorem findK_snoc_same {ks : List (List Int)} {k : List Int} (h : findK ks k = none) : findK (ks ++ [k]) k = some ks.length := by
  unfold findK at *
  rw [List.findIdx?_append, h]
  simp

theorem MapAt.put {P : Program} {tk te : TypeId} (K : Keyed P tk) {nk bm n : Nat} {ks : List (List Int)} {W' : World} {D : DataW Unit} (hk : ∀ xs l, xs.length = nk → keyOf P tk (keyArr xs) = some l → TellsK ks D xs l) (hD : IsMap D) (h4 : nk ≤ 4)
    {k : List Int} {kl : Lit} (hkn : k.length = nk) (hkl : keyOf P tk (keyArr k) = some kl) (hmiss : findK ks k = none) (hown : W'.ownsMap P tk (plainElem P te) bm n (D.put kl (.lit (.int .i64 ks.length)))) :
    MapAt P tk te nk bm n (ks ++ [k]) W' := by
  refine ⟨_, hown, fun xs l hx hl => ?_⟩
  by_cases e : k = xs
  · subst e
    have el : l = kl := by rw [hkl] at hl; cases hl; rfl
    subst el
    refine ⟨fun i hi => ?_, fun hi => ?_⟩
    · rw [findK_snoc_same hmiss] at hi
      cases hi
      exact ⟨has_put_same hD (K.key hkl) _, atKey_put_same hD (K.key hkl) _ _⟩
    · rw [findK_snoc_same hmiss] at hi
      cases hi
  · have hne : l ≠ kl := fun el => by
      subst el
      exact e (keyArr_inj (hkn.trans hx.symm) (by omega) (K.inj hkl hl))
    have ht := hk xs l hx hl
    refine ⟨fun i hi => ?_, fun hi => ?_⟩
    · rw [findK_snoc_other e] at hi
      rw [has_put_other hne, atKey_put_other hne]
      exact ht.hit i hi
    · rw [findK_snoc_other e] at hi
      rw [has_put_other hne]
      exact ht.miss hi

/-- How far sums go. -/
def sumsB (g : GrV) : Prop := ∀ s ∈ g.ss, -2147483648 * ((g.cnt : Int) + 1) ≤ s ∧ s ≤ 2147483648 * ((g.cnt : Int) + 1)
theorem sumsB_big {g : GrV} (h : sumsB g) (hc : g.cnt ≤ 1000000) : ∀ s ∈ g.ss, bigB s := fun s hs => by
  have := h s hs
  unfold bigB
  omega
theorem addsN_mem {ss row cols : List Int} {s : Int} (h : s ∈ addsN ss row cols) : ∃ a ∈ ss, ∃ c ∈ cols, s = addV a (row.getD c.toNat 0) := by
  unfold addsN at h
  obtain ⟨i, hi, rfl⟩ := List.getElem_of_mem h
  rw [List.length_zipWith] at hi
  rw [List.getElem_zipWith]
  exact ⟨_, List.getElem_mem (by omega), _, List.getElem_mem (by omega), rfl⟩
theorem sumsB_bump {g : GrV} {row sc : List Int} (h : sumsB g) (hr : ∀ v ∈ row, smallI v) : sumsB (g.bump row sc) := by
  intro s hs
  obtain ⟨a, ha, c, _, rfl⟩ := addsN_mem hs
  have h1 := h a ha
  have h2 := getD_small hr c.toNat
  unfold smallI at h2
  unfold addV
  show -2147483648 * (((g.cnt + 1 : Nat) : Int) + 1) ≤ _ ∧ _ ≤ 2147483648 * (((g.cnt + 1 : Nat) : Int) + 1)
  generalize row.getD c.toNat 0 = v at *
  have hc : (0 : Int) ≤ (g.cnt : Int) := Int.natCast_nonneg _
  split
  · constructor <;> omega
  · split
    · constructor <;> omega
    · constructor <;> omega
theorem sumsB_new (gb sb : Nat) (k : IntsV) (n : Nat) : sumsB ⟨gb, sb, k, 0, List.replicate n 1073741824⟩ := by
  intro s hs
  obtain ⟨_, rfl⟩ := List.mem_replicate.1 hs
  simp

end Go.Scout
namespace Go.Proofs.YtlpbelhfpoilpaaGreat
open Go.RowKit Go.Scout Go.WideMaps

theorem Tryz.arrKey : ArrKey Tryz.prog 134 3 4 := ⟨Tryz.underlying134, by kernel_rfl, by kernel_rfl, by kernel_rfl⟩
theorem Tryz.someTypes : ∃ m, Tryz.prog.types.size = m + 1 := ⟨Tryz.prog.types.size - 1, by kernel_rfl⟩
theorem Tryz.keyedLaw : Go.Maps.Keyed Tryz.prog 134 := Go.Maps.Keyed.of_law Tryz.arrKey.law
theorem Tryz.zeroInt (w : World) : (zeroValue 3).run Tryz.prog w = .ok (.int .i64 0) w := by kernel_rfl

end Go.Proofs.YtlpbelhfpoilpaaGreat

namespace Go.Scout
open Go.RowKit Go.Maps Go.WideMaps

/-- What stands while groups are gathered. -/
structure GI (P : Program) (tg ti tp tk : TypeId) (kc sc : IntsV) (w : World) (pre : List IntsV) (gs : List GrV) (o1 : Nat → Prop) (W : World) (v : Value) : Prop where
  fold : gs.map GrV.gr = pre.foldl (fun a x => stepG kc.xs sc.xs a x.xs) (startG kc.xs sc.xs)
  grps : Grps tg ti tp sc.xs.length (w.heap.size + 5) (w.heap.size + 2) gs W v
  map : MapAt P tk ti kc.xs.length (w.heap.size + 3) (pre.length + 1) (gs.map (·.k.xs)) W
  sums : ∀ g ∈ gs, sumsB g ∧ g.cnt ≤ pre.length
  bk : W.cell? ⟨w.heap.size, 0, none⟩ = some kc.val
  bs : W.cell? ⟨w.heap.size + 1, 0, none⟩ = some sc.val
  bn : W.cell? ⟨w.heap.size + 4, 0, none⟩ = some (.map (some (w.heap.size + 3)))
  below : Below w.heap.size w W
  iff : ∀ b, o1 b ↔ grpsOwn (w.heap.size + 2) v gs b ∨ b = w.heap.size + 3

theorem grpsOwn_low {tg ti tp : TypeId} {n base bg : Nat} {gs : List GrV} {A : World} {v : Value} (h : Grps tg ti tp n base bg gs A v) {b : Nat} (hb : grpsOwn bg v gs b) : b = bg ∨ base ≤ b := by
  rcases hb with rfl | hb | ⟨g, hg, hb⟩
  · exact .inl rfl
  · exact .inr (ownsRow_lt h.own hb).1
  · exact .inr (h.off g hg b hb).1

theorem GI.keep {P : Program} {tg ti tp tk : TypeId} {kc sc : IntsV} {w : World} {pre : List IntsV} {gs : List GrV} {o1 : Nat → Prop} {A B : World} {v : Value} (h : GI P tg ti tp tk kc sc w pre gs o1 A v) {s : Nat → Prop} (hk : Kept s A B) (hs : ∀ b, o1 b ∨ b < w.heap.size + 5 → s b) : GI P tg ti tp tk kc sc w pre gs o1 B v := by
  refine ⟨h.fold, h.grps.keep hk (fun b hb => hs b (.inl ((h.iff b).2 (.inl hb)))), h.map.keep (hk.block _ h.map.lt (hs _ (.inl ((h.iff _).2 (.inr rfl))))), h.sums, cell_keep h.bk hk (hs _ (.inr ?_)), cell_keep h.bs hk (hs _ (.inr ?_)), cell_keep h.bn hk (hs _ (.inr ?_)), h.below.trans (hk.below h.below.size (fun b hb => hs b (.inr (by omega)))), h.iff⟩
  · show w.heap.size < _; omega
  · show w.heap.size + 1 < _; omega
  · show w.heap.size + 4 < _; omega

theorem pad4 {vals : List Int} (h : vals.length ≤ 4) : vals.map (Value.int .i64) ++ List.drop vals.length [Value.int .i64 0, .int .i64 0, .int .i64 0, .int .i64 0] = [.int .i64 (vals.getD 0 0), .int .i64 (vals.getD 1 0), .int .i64 (vals.getD 2 0), .int .i64 (vals.getD 3 0)] := by
  match vals, h with
  | [], _ => rfl
  | [_], _ => rfl
  | [_, _], _ => rfl
  | [_, _, _], _ => rfl
  | [_, _, _, _], _ => rfl

end Go.Scout
namespace Go.Proofs.YtlpbelhfpoilpaaGreat
open Go.RowKit Go.Scout Go.Shelf Go.Maps Go.WideMaps

attribute [local go_sem] Oper.semAt_some

theorem key_copy (W : World) (vals : List Int) (hl : vals.length ≤ 4) (ty : TypeId) :
    (Builtin.copy_ #[23, 23] ty #[.slice (some ⟨W.heap.size + 1, 0, none⟩) 4 4, .slice (some ⟨W.heap.size, 0, none⟩) vals.length vals.length]).run Tryz.prog ((W.alloc (.cells (vals.map (Value.int .i64)).toArray 3)).alloc (.cells #[.int .i64 0, .int .i64 0, .int .i64 0, .int .i64 0] 134)) =
      .ok (.int .i64 vals.length) ((W.alloc (.cells (vals.map (Value.int .i64)).toArray 3)).alloc (.cells #[.int .i64 (vals.getD 0 0), .int .i64 (vals.getD 1 0), .int .i64 (vals.getD 2 0), .int .i64 (vals.getD 3 0)] 134)) := by
  have hs : (W.alloc (.cells (vals.map (Value.int .i64)).toArray 3)).heap.size = W.heap.size + 1 := by simp
  have hz : W.heap[W.heap.size]? = none := by simp
  have h := run_copy_wide (P := Tryz.prog) ((W.alloc (.cells (vals.map (Value.int .i64)).toArray 3)).alloc (.cells #[.int .i64 0, .int .i64 0, .int .i64 0, .int .i64 0] 134)) 23 23 ty 3 1 (W.alloc (.cells (vals.map (Value.int .i64)).toArray 3)).heap.size 4 4 (some ⟨W.heap.size, 0, none⟩) vals.length vals.length
    #[.int .i64 0, .int .i64 0, .int .i64 0, .int .i64 0] 134 (vals.map (Value.int .i64)) Tryz.underlying23 Tryz.sizeInt (heap_alloc_new _ _) hl (by simp)
    (fun _ => ⟨_, rfl, fun j u hj => by
      rw [addr_add, Nat.zero_add]
      refine cells_cell ((Below.heap_alloc (W.alloc (.cells (vals.map (Value.int .i64)).toArray 3)) _ _ (by simp)).trans (heap_alloc_new W _)) ?_
      rw [List.getElem?_toArray]
      exact hj⟩) (by simp; omega) (fun u hu => by obtain ⟨a, _, rfl⟩ := List.mem_map.1 hu; rfl)
  rw [setRow_alloc, hs] at h
  rw [h]
  have hp := pad4 hl
  simp only [List.length_map]
  exact congrArg (fun l => Result.ok (Value.int .i64 vals.length) ((W.alloc (.cells (vals.map (Value.int .i64)).toArray 3)).alloc (.cells (List.toArray l) 134))) hp

theorem Tryz.infoGrp : (Tryz.prog.info? 123).map (fun i => (i.zero, i.size, i.bytes)) = some (some (.pointer none), 1, 8) := by kernel_rfl

/-- groups = append(groups, newGroup(..)): what comes of it. -/
theorem push_group (W w4 : World) (n base bg : Nat) (gs : List GrV) (v : Value) (hG : Grps 138 3 123 n base bg gs W v) (hlow : base ≤ W.heap.size) (hgl : gs.length ≤ 2000000) (k : IntsV) (hk : rowEl.At k W) (hkb : ∀ b, rowEl.blk k = some b → base ≤ b ∧ ¬ grpsOwn bg v gs b)
    (h2 : w4.heap[W.heap.size + 2]? = some (.cells #[k.val, .int .i64 0, .slice (some ⟨W.heap.size + 1, 0, none⟩) n n] 138)) (h1 : w4.heap[W.heap.size + 1]? = some (.cells (List.replicate n (Value.int .i64 1073741824)).toArray 3)) (hb : Below W.heap.size W w4) (hs : w4.heap.size = W.heap.size + 3) :
    ∃ v' w5, (Builtin.append_ #[121, 121] 121 #[v, .slice (some ⟨w4.heap.size, 0, none⟩) 1 1]).run Tryz.prog (w4.alloc (.cells #[.pointer (some ⟨W.heap.size + 2, 0, none⟩)] 123)) = .ok v' w5 ∧
      w5.cell? ⟨bg, 0, none⟩ = some v ∧ w5.frozen? ⟨bg, 0, none⟩ = false ∧ (∃ a m c, v' = .slice a m c) ∧
      Grps 138 3 123 n base bg (gs ++ [⟨W.heap.size + 2, W.heap.size + 1, k, 0, List.replicate n 1073741824⟩]) (w5.setCell ⟨bg, 0, none⟩ v') v' ∧ Kept (fun b => b ≠ bg ∧ v.ownBlock ≠ some b) W (w5.setCell ⟨bg, 0, none⟩ v') ∧
      ∀ b, grpsOwn bg v' (gs ++ [⟨W.heap.size + 2, W.heap.size + 1, k, 0, List.replicate n 1073741824⟩]) b → grpsOwn bg v gs b ∨ rowEl.blk k = some b ∨ (W.heap.size ≤ b ∧ b < (w5.setCell ⟨bg, 0, none⟩ v').heap.size) := by
  obtain ⟨i0, hi, hz0, hz1, hz2⟩ := info_parts Tryz.infoGrp
  have hown4 : (w4.alloc (.cells #[.pointer (some ⟨W.heap.size + 2, 0, none⟩)] 123)).ownsRow base 123 1 v gs.length (gs.map GrV.ptr) := by
    refine ownsRow_keep hG.own (s := fun b => b < W.heap.size) ((Kept.of_below hb (fun b _ h => h)).trans (Kept.alloc _ _)) (fun g hg => (ownsRow_lt hG.own hg).2)
  obtain ⟨v', w5, hr, hown5, hgrow, _, hat⟩ := run_append_own_at (P := Tryz.prog) (w4.alloc (.cells #[.pointer (some ⟨W.heap.size + 2, 0, none⟩)] 123)) base 121 121 123 i0 (.pointer none) 1 8 Tryz.underlying121 hi hz0 hz1 hz2 rfl (by decide) v gs.length (gs.map GrV.ptr) hown4
    ⟨w4.heap.size, 0, none⟩ 1 1 [.pointer (some ⟨W.heap.size + 2, 0, none⟩)] rfl (fun j u hj => by
      match j, hj with
      | 0, hj => cases hj; exact cells_cell (heap_alloc_new w4 _) rfl) (fun u hu => by simp at hu; subst hu; rfl) (by unfold maxLen; omega) (by omega) (by simp; omega)
  have hkl : ∀ b, rowEl.blk k = some b → b < W.heap.size := fun b hb' => rowEl.inn hk hb'
  have hgA : (⟨W.heap.size + 2, W.heap.size + 1, k, 0, List.replicate n 1073741824⟩ : GrV).At 138 3 n w4 := by
    refine ⟨h2, by rw [List.map_replicate]; exact h1, rowEl.keep hk hb.size (fun b hb' _ => hb.block b hb'), by simp, by show W.heap.size + 2 ≠ W.heap.size + 1; omega, fun e => ?_, fun e => ?_⟩
    · have := hkl _ e; have h' : W.heap.size + 2 < W.heap.size := this; omega
    · have := hkl _ e; have h' : W.heap.size + 1 < W.heap.size := this; omega
  have hnew : ∀ b, (⟨W.heap.size + 2, W.heap.size + 1, k, 0, List.replicate n 1073741824⟩ : GrV).own b → ¬ grpsOwn bg v gs b := by
    rintro b (hb' | hb' | hb') ho
    · have := hG.lt ho; have e : b = W.heap.size + 2 := hb'; omega
    · have := hG.lt ho; have e : b = W.heap.size + 1 := hb'; omega
    · exact (hkb b hb').2 ho
  have hbase : ∀ b, (⟨W.heap.size + 2, W.heap.size + 1, k, 0, List.replicate n 1073741824⟩ : GrV).own b → base ≤ b := by
    rintro b (hb' | hb' | hb')
    · have e : b = W.heap.size + 2 := hb'; omega
    · have e : b = W.heap.size + 1 := hb'; omega
    · exact (hkb b hb').1
  have hat' : v'.ownBlock = v.ownBlock ∨ v'.ownBlock = some (w4.alloc (.cells #[.pointer (some ⟨W.heap.size + 2, 0, none⟩)] 123)).heap.size := hat
  obtain ⟨m1, m2, m3⟩ := hG.more hb hgA hbase hnew (Kept.alloc w4 _) hown5 hgrow hat'
  have hbgv : v.ownBlock ≠ some bg := fun e => by have := (ownsRow_lt hG.own e).1; have := hG.low; omega
  have hkW5 : Kept (fun b => v.ownBlock ≠ some b) W w5 := (((Kept.of_below hb (fun b hb' _ => hb')).trans (Kept.alloc (s := fun b => v.ownBlock ≠ some b) _ _))).trans (Kept.grown hgrow (fun r e hr => hr e))
  refine ⟨v', w5, hr, cell_keep hG.box hkW5 hbgv, (World.frozen?_of_block (hkW5.block _ (cell_lt hG.box) hbgv)).trans hG.thaw, ownsRow_slice hown5, m1, m2, ?_⟩
  intro b hb'
  have hsz : W.heap.size + 3 ≤ (w5.setCell ⟨bg, 0, none⟩ v').heap.size := by
    have h3 : w4.heap.size ≤ (w5.setCell ⟨bg, 0, none⟩ v').heap.size := by
      have h4 := hgrow.size
      rw [World.size_alloc] at h4
      have h5 : (w5.setCell ⟨bg, 0, none⟩ v').heap.size = w5.heap.size := by simp [World.setCell]
      omega
    omega
  rcases m3 b hb' with h | (h | h | h) | h
  · exact .inl h
  · have e : b = W.heap.size + 2 := h; exact .inr (.inr ⟨by omega, by omega⟩)
  · have e : b = W.heap.size + 1 := h; exact .inr (.inr ⟨by omega, by omega⟩)
  · exact .inr (.inl h)
  · exact .inr (.inr h)

def baseV (w : World) (kv sv : Value) : World :=
  ((((w.alloc (.cells #[kv] 23)).alloc (.cells #[sv] 23)).alloc (.cells #[.slice none 0 0] 121)).alloc (.map #[] 0)).alloc (.cells #[.map (some (w.heap.size + 1 + 1 + 1))] 132)

theorem base_facts (w : World) (kv sv : Value) (n nk : Nat) :
    Grps 138 3 123 n (w.heap.size + 5) (w.heap.size + 2) [] (baseV w kv sv) (.slice none 0 0) ∧ MapAt Tryz.prog 134 3 nk (w.heap.size + 3) 0 [] (baseV w kv sv) ∧
    (baseV w kv sv).cell? ⟨w.heap.size, 0, none⟩ = some kv ∧ (baseV w kv sv).cell? ⟨w.heap.size + 1, 0, none⟩ = some sv ∧ (baseV w kv sv).cell? ⟨w.heap.size + 4, 0, none⟩ = some (.map (some (w.heap.size + 3))) ∧
    Below w.heap.size w (baseV w kv sv) ∧ (baseV w kv sv).heap.size = w.heap.size + 5 := by
  unfold baseV
  obtain ⟨w1, hw1⟩ : ∃ w1, w.alloc (.cells #[kv] 23) = w1 := ⟨_, rfl⟩
  have a1 : w1.heap[w.heap.size]? = some (.cells #[kv] 23) := by rw [← hw1]; exact heap_alloc_new _ _
  have s1 : w1.heap.size = w.heap.size + 1 := by rw [← hw1]; simp
  have b1 : Below w.heap.size w w1 := by rw [← hw1]; exact below_alloc _ _
  rw [hw1]
  obtain ⟨w2, hw2⟩ : ∃ w2, w1.alloc (.cells #[sv] 23) = w2 := ⟨_, rfl⟩
  have a2 : w2.heap[w.heap.size + 1]? = some (.cells #[sv] 23) := by rw [← hw2, ← s1]; exact heap_alloc_new _ _
  have s2 : w2.heap.size = w.heap.size + 2 := by rw [← hw2]; simp [s1]
  have b2 : Below w1.heap.size w1 w2 := by rw [← hw2]; exact below_alloc _ _
  rw [hw2]
  obtain ⟨w3, hw3⟩ : ∃ w3, w2.alloc (.cells #[.slice none 0 0] 121) = w3 := ⟨_, rfl⟩
  have a3 : w3.heap[w.heap.size + 2]? = some (.cells #[.slice none 0 0] 121) := by rw [← hw3, ← s2]; exact heap_alloc_new _ _
  have s3 : w3.heap.size = w.heap.size + 3 := by rw [← hw3]; simp [s2]
  have b3 : Below w2.heap.size w2 w3 := by rw [← hw3]; exact below_alloc _ _
  rw [hw3]
  have hM := MapAt.fresh Tryz.prog 134 3 nk w3
  rw [s3] at hM
  obtain ⟨w4, hw4⟩ : ∃ w4, w3.alloc (.map #[] 0) = w4 := ⟨_, rfl⟩
  have s4 : w4.heap.size = w.heap.size + 4 := by rw [← hw4]; simp [s3]
  have b4 : Below w3.heap.size w3 w4 := by rw [← hw4]; exact below_alloc _ _
  rw [hw4] at hM
  rw [hw4]
  obtain ⟨w5, hw5⟩ : ∃ w5, w4.alloc (.cells #[.map (some (w.heap.size + 1 + 1 + 1))] 132) = w5 := ⟨_, rfl⟩
  have a5 : w5.heap[w.heap.size + 4]? = some (.cells #[.map (some (w.heap.size + 3))] 132) := by rw [← hw5, ← s4]; exact heap_alloc_new _ _
  have s5 : w5.heap.size = w.heap.size + 5 := by rw [← hw5]; simp [s4]
  have b5 : Below w4.heap.size w4 w5 := by rw [← hw5]; exact below_alloc _ _
  rw [hw5]
  have c45 := b5
  have c35 : Below w3.heap.size w3 w5 := b4.trans (c45.mono b4.size)
  have c25 : Below w2.heap.size w2 w5 := b3.trans (c35.mono b3.size)
  have c15 : Below w1.heap.size w1 w5 := b2.trans (c25.mono b2.size)
  have c05 : Below w.heap.size w w5 := b1.trans (c15.mono b1.size)
  have d3 : w5.heap[w.heap.size + 2]? = some (.cells #[.slice none 0 0] 121) := (c35.block _ (by omega)).trans a3
  refine ⟨⟨cells_cell d3 rfl, cells_thaw d3 0, World.ownsRow_nil _ _ _ _, fun _ h => by simp at h, fun _ h => by simp at h, List.Pairwise.nil, by omega⟩, hM.keep (c45.block _ (by omega)), cells_cell ((c15.block _ (by omega)).trans a1) rfl, cells_cell ((c25.block _ (by omega)).trans a2) rfl, cells_cell a5 rfl, c05, s5⟩

end Go.Proofs.YtlpbelhfpoilpaaGreat

namespace Go.Scout
open Go.RowKit

/-- A region within a round, where nothing is deferred, is as one outside. -/
theorem opIn_round {P : Program} {ops : Array Oper} {Q : Exit → Act → World → Prop} {l : Nat} (hd : ∀ o ∈ ops, ∀ c, o.op ≠ .defer c) {i : Nat} {K K' : Act → World → Prop} (hK : ∀ a w, K a w → K' a w) {a : Act} {w : World} (h : wpOpIn Fence.wide 0 P ops Q i K a w) : wpOpIn (Fence.wide.inRound l) 0 P ops Q i K' a w := by
  unfold wpOpIn at *
  cases ho : ops[i]? with
  | none => rw [ho] at h; exact hK _ _ h
  | some o =>
    rw [ho] at h
    simp only at *
    have hm : o ∈ ops := Array.mem_of_getElem? ho
    by_cases hw : Region.wanted o (yielded ops a.tmps) = true
    · rw [if_pos hw] at *
      unfold Oper.wpIn at *
      refine ⟨h.1, ?_⟩
      have h2 := h.2
      rw [Oper.semAt_plain Fence.wide _ _ (hd o hm)] at h2
      rw [Oper.semAt_plain (Fence.wide.inRound l) _ _ (hd o hm)]
      generalize Sem.run P (execOp a.eval o) w = r at *
      unfold Oper.uponIn at *
      split at h2
      · exact hK _ _ h2
      · exact hK _ _ h2
      · exact hK _ _ h2
      · exact ⟨h2.1, h2.2.mono (fun e w' he => by
          cases e with
          | returned v => exact hK _ _ he
          | panicked c => exact he
          | outgrown => exact he)⟩
      · exact ⟨h2.1, h2.2.mono (fun v w' he => hK _ _ he)⟩
      · exact ⟨h2.1, h2.2.mono (fun e w' he => by
          cases e with
          | returned v => exact hK _ _ he
          | panicked c => exact he
          | outgrown => exact he)⟩
      · exact h2
      · exact h2.elim
    · rw [if_neg hw] at *
      exact ⟨h.1, hK _ _ h.2⟩

theorem anyIn_round {P : Program} {md : Region.Mode} {ops : Array Oper} {Q : Exit → Act → World → Prop} {l : Nat} (hd : ∀ o ∈ ops, ∀ c, o.op ≠ .defer c) : ∀ (fuel : Nat) (listed : Array Bool) (a : Act) (w : World),
    wpAnyIn Fence.wide 0 P md ops Q fuel listed a w → wpAnyIn (Fence.wide.inRound l) 0 P md ops Q fuel listed a w
  | 0, _, _, _, h => h
  | fuel + 1, listed, a, w, h => ⟨h.1, fun i hi => opIn_round hd (fun a' w' h' => anyIn_round hd fuel _ a' w' h') (h.2 i hi)⟩

def noDefer (ops : Array Oper) : Bool := ops.all fun o => match o.op with | .defer _ => false | _ => true
theorem noDefer_spec {ops : Array Oper} (h : noDefer ops = true) : ∀ o ∈ ops, ∀ c, o.op ≠ .defer c := by
  intro o ho c hc
  unfold noDefer at h
  rw [Array.all_eq_true_iff_forall_mem] at h
  have := h o ho
  rw [hc] at this
  simp at this

/-- append, as one step of a region that draws its order. -/
theorem stepIn_append {F : Fence} {n : Nat} {P : Program} {ops : Array Oper} {o : Oper} {a : Act} {w : World} {K : Act → World → Prop} {Q : Exit → Act → World → Prop} {E : Prop} (hgd : o.guard = none) (s x : Operand) (t : TypeId)
    (ho : o.op = .call { callee := .builtin .append, args := #[s, x], argTypes := #[t, t] }) (v u v' : Value) (w' : World) (hs : a.eval s = v) (hx : a.eval x = u)
    (hrun : (Builtin.append_ #[t, t] o.type #[v, u]).run P w = .ok v' w') (h : K (a.put o.dst v') w') : if Region.wanted o (yielded ops a.tmps) = true then Oper.wpIn F n P o a w K Q else E := by
  have hw : Region.wanted o (yielded ops a.tmps) = true := by simp [Region.wanted, hgd]
  rw [if_pos hw]
  unfold Oper.wpIn
  refine ⟨by simp [Oper.about, ho, resolve, Target.leads, Sem.run_pure], ?_⟩
  rw [Oper.semAt_plain F _ _ (by rw [ho]; intro c hc'; cases hc')]
  simp [execOp, ho, resolve, invoke, builtin, hs, hx, hrun, Result.andThen]
  exact h

theorem step_append {P : Program} {ops : Array Oper} {o : Oper} {a : Act} {w : World} {K : Act → World → Prop} {Q : Exit → Act → World → Prop} {E : Prop} (hgd : o.guard = none) (s x : Operand) (t : TypeId)
    (ho : o.op = .call { callee := .builtin .append, args := #[s, x], argTypes := #[t, t] }) (v u v' : Value) (w' : World) (hs : a.eval s = v) (hx : a.eval x = u)
    (hrun : (Builtin.append_ #[t, t] o.type #[v, u]).run P w = .ok v' w') (h : K (a.put o.dst v') w') : if Region.wanted o (yielded ops a.tmps) = true then Oper.wp P o a w K Q else E := by
  have hw : Region.wanted o (yielded ops a.tmps) = true := by simp [Region.wanted, hgd]
  rw [if_pos hw]
  unfold Oper.wp
  simp [execOp, ho, resolve, invoke, builtin, hs, hx, hrun, Result.andThen]
  exact h

end Go.Scout

