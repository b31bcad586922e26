import Derived.Test.YtlpbelhfpoilpaaGreatCGrFGrGGrHGrI
set_option linter.all false
namespace Go.Scout
open Go.RowKit Go.Maps Go.WideMaps

theorem ownsRow_len {A : World} {base : Nat} {e : TypeId} {v : Value} {n : Nat} {xs : List Value} (h : A.ownsRow base e 1 v n xs) : ∃ ad cap, v = .slice ad n cap := by
  rcases h.2 with ⟨rfl, h0⟩ | ⟨g', cap, cur, rfl, _⟩
  · subst h0
    exact ⟨_, _, rfl⟩
  · exact ⟨_, _, rfl⟩

theorem ownsRow_cell {A : World} {base : Nat} {e : TypeId} {v : Value} {n : Nat} {xs : List Value} (h : A.ownsRow base e 1 v n xs) {i : Nat} (hi : i < n) : ∃ g cap, v = .slice (some ⟨g, 0, none⟩) n cap ∧ A.cell? ⟨g, i, none⟩ = xs[i]? := by
  have hl : xs.length = n * 1 := h.1
  rcases h.2 with ⟨rfl, h0⟩ | ⟨g', cap, cur, rfl, _, hg, h1, h2, h3, h4⟩
  · omega
  · refine ⟨g', cap, rfl, ?_⟩
    have hx : xs[i]? = (cur.toList.take (n * 1))[i]? := by rw [h4]
    rw [hx, List.getElem?_take_of_lt (by omega)]
    simp [World.cell?, hg]

theorem findK_lt {ks : List (List Int)} {k : List Int} {i : Nat} (h : findK ks k = some i) : ∃ hi : i < ks.length, ks[i] = k := by
  unfold findK at h
  rw [List.findIdx?_eq_some_iff_getElem] at h
  obtain ⟨hi, h1, _⟩ := h
  exact ⟨hi, of_decide_eq_true h1⟩

theorem pickN_small {row cols : List Int} (h : ∀ v ∈ row, smallI v) : ∀ v ∈ pickN row cols, smallI v := by
  intro v hv
  unfold pickN at hv
  obtain ⟨c, _, rfl⟩ := List.mem_map.1 hv
  exact getD_small h _

/-- What the fold does, over what lies in memory: a row of a group that is there. -/
theorem fold_hit {kc sc : List Int} {pre : List IntsV} {x : IntsV} {gs : List GrV} (hf : gs.map GrV.gr = pre.foldl (fun a x => stepG kc sc a x.xs) (startG kc sc)) {i : Nat} (hi : findK (gs.map (·.k.xs)) (pickN x.xs kc) = some i) :
    (gs.modify i (GrV.bump x.xs sc)).map GrV.gr = (pre ++ [x]).foldl (fun a x => stepG kc sc a x.xs) (startG kc sc) := by
  rw [List.foldl_append, ← hf]
  show _ = stepG kc sc (gs.map GrV.gr) x.xs
  unfold stepG
  have e : (gs.map GrV.gr).map Gr.key = gs.map (·.k.xs) := by rw [List.map_map]; rfl
  rw [e, hi]
  simp only
  apply List.ext_getElem (by simp)
  intro j h1 h2
  rw [List.getElem_map, List.getElem_modify, List.getElem_modify, List.getElem_map]
  split <;> rfl

/-- .. of a group that is new. -/
theorem fold_miss {kc sc : List Int} {pre : List IntsV} {x : IntsV} {gs : List GrV} (hf : gs.map GrV.gr = pre.foldl (fun a x => stepG kc sc a x.xs) (startG kc sc)) (hi : findK (gs.map (·.k.xs)) (pickN x.xs kc) = none) {g : GrV} (hg : g.gr = newG (pickN x.xs kc) sc.length) :
    ((gs ++ [g]).modify gs.length (GrV.bump x.xs sc)).map GrV.gr = (pre ++ [x]).foldl (fun a x => stepG kc sc a x.xs) (startG kc sc) := by
  rw [List.foldl_append, ← hf]
  show _ = stepG kc sc (gs.map GrV.gr) x.xs
  unfold stepG
  have e : (gs.map GrV.gr).map Gr.key = gs.map (·.k.xs) := by rw [List.map_map]; rfl
  rw [e, hi]
  simp only
  have hm : (gs ++ [g]).modify gs.length (GrV.bump x.xs sc) = gs ++ [g.bump x.xs sc] := by
    apply List.ext_getElem (by simp)
    intro j h1 h2
    rw [List.getElem_modify]
    by_cases hj : j < gs.length
    · rw [if_neg (by omega), List.getElem_append_left hj, List.getElem_append_left hj]
    · have hj' : j = gs.length := by simp at h2; omega
      subst hj'
      simp
  rw [hm, List.map_append, List.map_singleton]
  congr 2
  show (⟨g.k.xs, g.cnt + 1, addsN g.ss x.xs sc⟩ : Gr) = addG x.xs sc _
  rw [← hg]
  rfl

end Go.Scout
namespace Go.Proofs.YtlpbelhfpoilpaaGreat
open Go.RowKit Go.Scout Go.Maps Go.WideMaps

/-- The look-up. -/
theorem look_facts (W : World) (nk bm n : Nat) (ks : List (List Int)) (hM : MapAt Tryz.prog 134 3 nk bm n ks W) (vals : List Int) (hvl : vals.length = nk) (h4 : nk ≤ 4) (hn : n < 2000000) (hkl : ks.length ≤ 2000000) (hsm : ∀ v ∈ vals, smallI v) :
    (∀ i, findK ks vals = some i → (Instr.lookup 132 (.map (some bm)) (keyArr vals) true).run Tryz.prog W = .ok (.tuple #[.int .i64 i, .bool true]) W) ∧
    (findK ks vals = none → (Instr.lookup 132 (.map (some bm)) (keyArr vals) true).run Tryz.prog W = .ok (.tuple #[.int .i64 0, .bool false]) W ∧
      ∃ W', (Instr.mapUpdate 132 (.map (some bm)) (keyArr vals) (.int .i64 ks.length)).run Tryz.prog W = .ok () W' ∧ MapAt Tryz.prog 134 3 nk bm (n + 1) (ks ++ [vals]) W' ∧ W.grownBy W' (some bm)) := by
  obtain ⟨D, hown, ht⟩ := hM
  obtain ⟨kl, hkey⟩ := keyArr_key (xs := vals) Tryz.arrKey Tryz.underlying3 Tryz.someTypes hsm
  have hT := ht vals kl hvl hkey
  obtain ⟨v, ps, hrun, hv⟩ := hown.look_ok Tryz.keyedLaw Tryz.underlying132 (Tryz.zeroInt W) (plainElem_int (H := Unit) Tryz.underlying3 (a := 0) rfl) hkey
  obtain ⟨c, rfl, hc, _⟩ := plainElem_int_inv Tryz.underlying3 hv
  have hc' : D.atKey kl (.lit (.int .i64 0)) = .lit (.int .i64 c) := congrArg Prod.fst hc
  refine ⟨fun i hi => ?_, fun hi => ⟨?_, ?_⟩⟩
  · obtain ⟨h1, h2⟩ := hT.hit i hi
    rw [h2] at hc'
    simp only [DataW.lit.injEq, Lit.int.injEq, true_and] at hc'
    have e : (i : Int) = c := hc'
    rw [hrun, h1, e]
  · have h1 := hT.miss hi
    rw [atKey_of_not_has h1] at hc'
    simp only [DataW.lit.injEq, Lit.int.injEq, true_and] at hc'
    have e : (0 : Int) = c := hc'
    rw [hrun, h1, ← e]
  · obtain ⟨W', hr, hown', hg⟩ := hown.update Tryz.keyedLaw Tryz.underlying132 (by unfold maxLen; omega) hkey (plainElem_int (H := Unit) Tryz.underlying3 (a := (ks.length : Int)) (WalkArith.wf_i64 (by omega)))
    exact ⟨W', hr, MapAt.put Tryz.keyedLaw ht hown.isMap h4 hvl hkey hi hown', hg⟩

end Go.Proofs.YtlpbelhfpoilpaaGreat

namespace Go.Scout
open Go.RowKit Go.Maps Go.WideMaps

theorem MapAt.mono {P : Program} {tk te : TypeId} {nk bm n m : Nat} {ks : List (List Int)} {A : World} (h : MapAt P tk te nk bm n ks A) (hn : n ≤ m) : MapAt P tk te nk bm m ks A := by
  obtain ⟨D, h1, h2⟩ := h
  exact ⟨D, h1.mono hn, h2⟩

theorem bump_own (row sc : List Int) (g : GrV) : (g.bump row sc).own = g.own := rfl

theorem modify_own {gs : List GrV} {i : Nat} {row sc : List Int} {bg : Nat} {v : Value} (b : Nat) : grpsOwn bg v (gs.modify i (GrV.bump row sc)) b ↔ grpsOwn bg v gs b := by
  unfold grpsOwn
  refine or_congr Iff.rfl (or_congr Iff.rfl ⟨?_, ?_⟩)
  · rintro ⟨x, hx, hb⟩
    obtain ⟨j, hj, rfl⟩ := List.getElem_of_mem hx
    rw [List.length_modify] at hj
    refine ⟨gs[j], List.getElem_mem hj, ?_⟩
    rw [List.getElem_modify] at hb
    split at hb
    · exact hb
    · exact hb
  · rintro ⟨x, hx, hb⟩
    obtain ⟨j, hj, rfl⟩ := List.getElem_of_mem hx
    refine ⟨(gs.modify i (GrV.bump row sc))[j]'(by rw [List.length_modify]; exact hj), List.getElem_mem _, ?_⟩
    rw [List.getElem_modify]
    split
    · exact hb
    · exact hb

/-- A round's end: a row more in one of the groups. -/
theorem GI.bumped {P : Program} {tg ti tp tk : TypeId} {kc sc : IntsV} {w : World} {pre : List IntsV} {x : IntsV} {gs : List GrV} {Y W' : World} {v : Value}
    (hgr : Grps tg ti tp sc.xs.length (w.heap.size + 5) (w.heap.size + 2) gs Y v) (hmap : MapAt P tk ti kc.xs.length (w.heap.size + 3) (pre.length + 2) (gs.map (·.k.xs)) Y) (hsum : ∀ g ∈ gs, sumsB g ∧ g.cnt ≤ pre.length)
    (hbk : Y.cell? ⟨w.heap.size, 0, none⟩ = some kc.val) (hbs : Y.cell? ⟨w.heap.size + 1, 0, none⟩ = some sc.val) (hbn : Y.cell? ⟨w.heap.size + 4, 0, none⟩ = some (.map (some (w.heap.size + 3)))) (hbel : Below w.heap.size w Y)
    {i : Nat} (hi : i < gs.length) (hfold : (gs.modify i (GrV.bump x.xs sc.xs)).map GrV.gr = (pre ++ [x]).foldl (fun a x => stepG kc.xs sc.xs a x.xs) (startG kc.xs sc.xs)) (hsm : ∀ v ∈ x.xs, smallI v)
    (hg : W'.heap[gs[i].gb]? = some (.cells #[gs[i].k.val, .int .i64 (gs[i].cnt + 1 : Nat), .slice (some ⟨gs[i].sb, 0, none⟩) sc.xs.length sc.xs.length] tg)) (hs : W'.heap[gs[i].sb]? = some (.cells ((addsN gs[i].ss x.xs sc.xs).map (Value.int .i64)).toArray ti))
    (hk : Kept (fun b => b ≠ gs[i].gb ∧ b ≠ gs[i].sb) Y W') :
    GI P tg ti tp tk kc sc w (pre ++ [x]) (gs.modify i (GrV.bump x.xs sc.xs)) (fun b => grpsOwn (w.heap.size + 2) v gs b ∨ b = w.heap.size + 3) W' v := by
  have hmem : gs[i] ∈ gs := List.getElem_mem hi
  have hlow : ∀ b, b < w.heap.size + 5 → b ≠ gs[i].gb ∧ b ≠ gs[i].sb := fun b hb => by
    have h1 := (hgr.off _ hmem gs[i].gb (.inl rfl)).1
    have h2 := (hgr.off _ hmem gs[i].sb (.inr (.inl rfl))).1
    omega
  have hl : (addsN gs[i].ss x.xs sc.xs).length = sc.xs.length := addsN_len (hgr.at' _ hmem).len
  refine ⟨hfold, hgr.bump hi x.xs sc.xs hl hg hs hk, ?_, ?_, cell_keep hbk hk (hlow _ (by show w.heap.size < _; omega)), cell_keep hbs hk (hlow _ (by show w.heap.size + 1 < _; omega)), cell_keep hbn hk (hlow _ (by show w.heap.size + 4 < _; omega)), hbel.trans (hk.below hbel.size (fun b hb => hlow b (by omega))), fun b => ?_⟩
  · have e : (gs.modify i (GrV.bump x.xs sc.xs)).map (·.k.xs) = gs.map (·.k.xs) := by
      apply List.ext_getElem (by simp)
      intro j h1 h2
      rw [List.getElem_map, List.getElem_map, List.getElem_modify]
      split <;> rfl
    rw [e, List.length_append, List.length_singleton]
    exact hmap.keep (hk.block _ hmap.lt (hlow _ (by omega)))
  · intro g hgm
    obtain ⟨j, hj, rfl⟩ := List.getElem_of_mem hgm
    rw [List.length_modify] at hj
    rw [List.getElem_modify, List.length_append, List.length_singleton]
    have h1 := hsum _ (List.getElem_mem hj)
    split
    · exact ⟨sumsB_bump h1.1 hsm, by show gs[j].cnt + 1 ≤ _; omega⟩
    · exact ⟨h1.1, by omega⟩
  · show _ ↔ _
    rw [modify_own]

theorem fold_len (kc sc : List Int) : ∀ (pre : List IntsV) (a : List Gr), (pre.foldl (fun a x => stepG kc sc a x.xs) a).length ≤ a.length + pre.length
  | [], a => by simp
  | x :: l, a => by
    rw [List.foldl_cons]
    have h := fold_len kc sc l (stepG kc sc a x.xs)
    have h1 : (stepG kc sc a x.xs).length ≤ a.length + 1 := by
      unfold stepG
      split
      · rw [List.length_modify]; omega
      · simp
    rw [List.length_cons]
    omega

theorem GI.len {P : Program} {tg ti tp tk : TypeId} {kc sc : IntsV} {w : World} {pre : List IntsV} {gs : List GrV} {o1 : Nat → Prop} {A : World} {v : Value} (h : GI P tg ti tp tk kc sc w pre gs o1 A v) : gs.length ≤ pre.length + 1 := by
  have h1 := congrArg List.length h.fold
  rw [List.length_map] at h1
  have h2 := fold_len kc.xs sc.xs pre (startG kc.xs sc.xs)
  have h3 : (startG kc.xs sc.xs).length ≤ 1 := by unfold startG; split <;> simp
  omega

theorem x_off {tg ti tp : TypeId} {n base bg : Nat} {gs : List GrV} {A : World} {v : Value} (h : Grps tg ti tp n base bg gs A v) {x : IntsV} (hx : ∀ b, rowEl.blk x = some b → ¬ grpsOwn bg v gs b) {i : Nat} (hi : i < gs.length) : ∀ a, x.ad = some a → a.block ≠ gs[i].gb ∧ a.block ≠ gs[i].sb := by
  intro a ha
  have hb : rowEl.blk x = some a.block := by show x.ad.map _ = _; rw [ha]; rfl
  exact ⟨fun e => hx _ hb (.inr (.inr ⟨gs[i], List.getElem_mem hi, .inl e⟩)), fun e => hx _ hb (.inr (.inr ⟨gs[i], List.getElem_mem hi, .inr (.inl e)⟩))⟩

end Go.Scout
namespace Go.Proofs.YtlpbelhfpoilpaaGreat
open Go.RowKit Go.Scout Go.Maps Go.WideMaps

/-- groups[number].add(row, sums): what comes of it. -/
theorem add_facts (w Y : World) (gs : List GrV) (v : Value) (sc x : IntsV) (hgr : Grps 138 3 123 sc.xs.length (w.heap.size + 5) (w.heap.size + 2) gs Y v) (hbel : Below w.heap.size w Y) (hsc : sc.At w) (hsl : sc.xs.length ≤ 4) (hx : rowEl.At x Y) (hxo : ∀ b, rowEl.blk x = some b → ¬ grpsOwn (w.heap.size + 2) v gs b)
    (hsum : ∀ g ∈ gs, sumsB g ∧ g.cnt ≤ 1000000) (hsm : ∀ v ∈ x.xs, smallI v) (hin : allB sc.xs x.xs.length = true) {i : Nat} (hi : i < gs.length) :
    Calls Tryz.prog 106 #[.pointer (some ⟨gs[i].gb, 0, none⟩), x.val, sc.val] Y.drew fun e w' => (∃ u, e = .returned u) ∧
      w'.heap[gs[i].gb]? = some (.cells #[gs[i].k.val, .int .i64 (gs[i].cnt + 1 : Nat), .slice (some ⟨gs[i].sb, 0, none⟩) sc.xs.length sc.xs.length] 138) ∧ w'.heap[gs[i].sb]? = some (.cells ((addsN gs[i].ss x.xs sc.xs).map (Value.int .i64)).toArray 3) ∧
      Kept (fun b => b ≠ gs[i].gb ∧ b ≠ gs[i].sb) Y w' ∧ w'.heap.size = Y.heap.size := by
  have hmem : gs[i] ∈ gs := List.getElem_mem hi
  have hA := hgr.at' _ hmem
  have hscY : sc.At Y := IntsAt.below hbel hsc
  have hkd : ∀ s, Kept s Y Y.drew := fun s => ⟨rfl, rfl, rfl, Nat.le_refl _, fun _ _ _ => rfl⟩
  have h := groupAdd_any gs[i].gb gs[i].sb gs[i].k.val gs[i].cnt gs[i].ss x sc Y.drew hA.ne hA.cells hA.sums hA.len hsl hx.1 hscY (x_off hgr hxo hi) (fun hp a ha => by
    obtain ⟨b, off, e, hc⟩ := hsc.get hp
    rw [e] at ha
    cases ha
    have hlt := cell_lt (hc 0 hp)
    have h1 := (hgr.off _ hmem gs[i].gb (.inl rfl)).1
    have h2 := (hgr.off _ hmem gs[i].sb (.inr (.inl rfl))).1
    have hlt' : b < w.heap.size := hlt
    exact ⟨fun e => by have e' : b = gs[i].gb := e; omega, fun e => by have e' : b = gs[i].sb := e; omega⟩) hin (hsum _ hmem).2 (sumsB_big (hsum _ hmem).1 (hsum _ hmem).2) (fun u hu => by have := hsm u hu; unfold smallI at this; unfold bigB; omega)
  refine h.mono ?_
  rintro e w' ⟨h1, h2, h3, h4, h5⟩
  exact ⟨h1, h2, h3, (hkd _).trans h4, h5⟩

end Go.Proofs.YtlpbelhfpoilpaaGreat

