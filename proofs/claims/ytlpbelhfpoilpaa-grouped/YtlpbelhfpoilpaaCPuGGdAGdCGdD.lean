import Derived.Test.YtlpbelhfpoilpaaCGrOThAMkrAMkrB
import Derived.Test.YtlpbelhfpoilpaaCKeEPuTThB
set_option linter.all false
namespace Go.Scout
open Go.RowKit

def nnI (v : Int) : Int := if v = 1073741824 then 0 else v
def valI (v : Int) : Prop := v = 1073741824 ∨ (-1000 ≤ v ∧ v ≤ 1000)
def sumI (v : Int) (c : Nat) : Prop := v = 1073741824 ∨ (-(1000 * (c : Int)) ≤ v ∧ v ≤ 1000 * (c : Int))

theorem addV_nn {a v : Int} {c : Nat} (ha : sumI a c) (hc : c ≤ 100000) (hv : valI v) : nnI (addV a v) = nnI a + nnI v ∧ (addV a v ≠ 1073741824 ↔ a ≠ 1073741824 ∨ v ≠ 1073741824) ∧ sumI (addV a v) (c + 1) := by
  unfold addV nnI sumI valI at *
  by_cases h1 : v = 1073741824
  · simp only [h1, if_true]
    refine ⟨by omega, by simp, ?_⟩
    rcases ha with h | h
    · exact .inl h
    · exact .inr (by omega)
  · by_cases h2 : a = 1073741824
    · simp only [h1, h2, if_true, if_false]
      refine ⟨by omega, by simp [h1], .inr (by omega)⟩
    · simp only [h1, h2, if_false]
      have h3 : ¬ a + v = 1073741824 := by omega
      rw [if_neg h3]
      exact ⟨rfl, by simp [h1, h2, h3], .inr (by omega)⟩

theorem sum_modify {α : Type} (h : α → Int) (f : α → α) : ∀ (l : List α) (i : Nat) (hi : i < l.length), ((l.modify i f).map h).sum = (l.map h).sum + (h (f l[i]) - h l[i])
  | [], i, hi => by simp at hi
  | a :: l, 0, _ => by simp; omega
  | a :: l, i + 1, hi => by
    have := sum_modify h f l i (by simpa using hi)
    simp only [List.modify_succ_cons, List.map_cons, List.sum_cons, List.getElem_cons_succ]
    omega

/-- What holds of groups while rows come. -/
structure GInv (nk : Nat) (s : Int) (gs : List Gr) (P : List (List Int)) : Prop where
  cnt : (gs.map fun g => (g.cnt : Int)).sum = P.length
  sum : (gs.map fun g => nnI (g.ss.getD 0 0)).sum = (P.map fun r => nnI (r.getD s.toNat 0)).sum
  any : (∃ g ∈ gs, g.ss.getD 0 0 ≠ 1073741824) ↔ ∃ r ∈ P, r.getD s.toNat 0 ≠ 1073741824
  apart : (gs.map Gr.key).Pairwise (· ≠ ·)
  each : ∀ g ∈ gs, g.key.length = nk ∧ g.ss.length = 1 ∧ sumI (g.ss.getD 0 0) g.cnt ∧ g.cnt ≤ P.length

theorem addsN_one {ss row : List Int} {s : Int} (h : ss.length = 1) : addsN ss row [s] = [addV (ss.getD 0 0) (row.getD s.toNat 0)] := by
  match ss, h with
  | [a], _ => rfl

theorem GInv.step {kc : List Int} {s : Int} {gs : List Gr} {P : List (List Int)} (h : GInv kc.length s gs P) {row : List Int} (hv : valI (row.getD s.toNat 0)) (hp : P.length ≤ 100000) : GInv kc.length s (stepG kc [s] gs row) (P ++ [row]) := by
  have hsumP : ((P ++ [row]).map fun r => nnI (r.getD s.toNat 0)).sum = (P.map fun r => nnI (r.getD s.toNat 0)).sum + nnI (row.getD s.toNat 0) := by simp
  have hanyP : (∃ r ∈ P ++ [row], r.getD s.toNat 0 ≠ 1073741824) ↔ (∃ r ∈ P, r.getD s.toNat 0 ≠ 1073741824) ∨ row.getD s.toNat 0 ≠ 1073741824 := by
    constructor
    · rintro ⟨r, hr, h1⟩
      rcases List.mem_append.1 hr with hr | hr
      · exact .inl ⟨r, hr, h1⟩
      · rw [List.mem_singleton] at hr; subst hr; exact .inr h1
    · rintro (⟨r, hr, h1⟩ | h1)
      · exact ⟨r, List.mem_append_left _ hr, h1⟩
      · exact ⟨row, by simp, h1⟩
  unfold stepG
  cases hf : findK (gs.map Gr.key) (pickN row kc) with
  | some i =>
    simp only
    obtain ⟨hi', hki⟩ := findK_lt hf
    have hi : i < gs.length := by simpa using hi'
    have he := h.each _ (List.getElem_mem hi)
    obtain ⟨a1, a2, a3⟩ := addV_nn he.2.2.1 (by omega) hv
    have hss : (addG row [s] gs[i]).ss = [addV (gs[i].ss.getD 0 0) (row.getD s.toNat 0)] := addsN_one he.2.1
    have hss0 : (addG row [s] gs[i]).ss.getD 0 0 = addV (gs[i].ss.getD 0 0) (row.getD s.toNat 0) := by rw [hss]; rfl
    have hget : ∀ j (hj : j < gs.length), (gs.modify i (addG row [s]))[j]'(by rw [List.length_modify]; exact hj) = if i = j then addG row [s] gs[j] else gs[j] := fun j hj => List.getElem_modify ..
    refine ⟨?_, ?_, ?_, ?_, ?_⟩
    · rw [sum_modify _ _ gs i hi, h.cnt]
      show _ + (((gs[i].cnt + 1 : Nat) : Int) - (gs[i].cnt : Int)) = _
      rw [List.length_append, List.length_singleton]
      omega
    · rw [sum_modify _ _ gs i hi, h.sum, hsumP, hss0, a1]
      omega
    · rw [hanyP, ← h.any]
      constructor
      · rintro ⟨g, hg, hn⟩
        obtain ⟨j, hj, rfl⟩ := List.getElem_of_mem hg
        rw [List.length_modify] at hj
        rw [hget j hj] at hn
        by_cases e : i = j
        · subst e
          rw [if_pos rfl, hss0] at hn
          rcases a2.1 hn with h1 | h1
          · exact .inl ⟨_, List.getElem_mem hi, h1⟩
          · exact .inr h1
        · rw [if_neg e] at hn
          exact .inl ⟨_, List.getElem_mem hj, hn⟩
      · intro hx
        rcases hx with ⟨g, hg, hn⟩ | hn
        · obtain ⟨j, hj, rfl⟩ := List.getElem_of_mem hg
          refine ⟨_, List.getElem_mem (l := gs.modify i (addG row [s])) (n := j) (by rw [List.length_modify]; exact hj), ?_⟩
          rw [hget j hj]
          by_cases e : i = j
          · subst e
            rw [if_pos rfl, hss0]
            exact a2.2 (.inl hn)
          · rw [if_neg e]; exact hn
        · refine ⟨_, List.getElem_mem (l := gs.modify i (addG row [s])) (n := i) (by rw [List.length_modify]; exact hi), ?_⟩
          rw [hget i hi, if_pos rfl, hss0]
          exact a2.2 (.inr hn)
    · have e : (gs.modify i (addG row [s])).map Gr.key = gs.map Gr.key := by
        apply List.ext_getElem (by simp)
        intro j h1 h2
        rw [List.getElem_map, List.getElem_map, hget j (by simpa using h2)]
        split <;> rfl
      rw [e]
      exact h.apart
    · intro g hg
      obtain ⟨j, hj, rfl⟩ := List.getElem_of_mem hg
      rw [List.length_modify] at hj
      have hj2 := h.each _ (List.getElem_mem hj)
      rw [hget j hj, List.length_append, List.length_singleton]
      by_cases e : i = j
      · subst e
        rw [if_pos rfl, hss0, hss]
        exact ⟨he.1, rfl, a3, by show gs[i].cnt + 1 ≤ _; omega⟩
      · rw [if_neg e]
        exact ⟨hj2.1, hj2.2.1, hj2.2.2.1, by omega⟩
  | none =>
    simp only
    obtain ⟨a1, a2, a3⟩ := addV_nn (a := 1073741824) (c := 0) (.inl rfl) (by omega) hv
    have hss : (addG row [s] (newG (pickN row kc) [s].length)).ss = [addV 1073741824 (row.getD s.toNat 0)] := rfl
    have hn0 : nnI 1073741824 = 0 := rfl
    have hmem : ∀ g ∈ gs ++ [addG row [s] (newG (pickN row kc) [s].length)], g ∈ gs ∨ g = addG row [s] (newG (pickN row kc) [s].length) := fun g hg => by
      rcases List.mem_append.1 hg with h1 | h1
      · exact .inl h1
      · exact .inr (List.mem_singleton.1 h1)
    refine ⟨?_, ?_, ?_, ?_, ?_⟩
    · rw [List.map_append, List.sum_append, h.cnt, List.length_append]
      rfl
    · rw [List.map_append, List.sum_append, h.sum, hsumP]
      have : (List.map (fun g : Gr => nnI (g.ss.getD 0 0)) [addG row [s] (newG (pickN row kc) [s].length)]).sum = nnI (addV 1073741824 (row.getD s.toNat 0)) := by
        simp only [List.map_cons, List.map_nil, List.sum_cons, List.sum_nil, Int.add_zero]
        rw [hss]
        rfl
      rw [this, a1, hn0]
      omega
    · rw [hanyP, ← h.any]
      constructor
      · rintro ⟨g, hg, hn⟩
        rcases hmem g hg with h1 | rfl
        · exact .inl ⟨g, h1, hn⟩
        · rw [hss] at hn
          rcases a2.1 hn with h1 | h1
          · exact absurd rfl h1
          · exact .inr h1
      · rintro (⟨g, hg, hn⟩ | hn)
        · exact ⟨g, List.mem_append_left _ hg, hn⟩
        · exact ⟨_, List.mem_append_right _ (List.mem_singleton.2 rfl), by rw [hss]; exact a2.2 (.inr hn)⟩
    · rw [List.map_append, List.pairwise_append]
      refine ⟨h.apart, List.pairwise_singleton _ _, ?_⟩
      intro a ha b hb e
      rw [List.map_singleton, List.mem_singleton] at hb
      subst hb
      unfold findK at hf
      rw [List.findIdx?_eq_none_iff] at hf
      have := hf a ha
      rw [decide_eq_false_iff_not] at this
      exact this e
    · intro g hg
      rw [List.length_append, List.length_singleton]
      rcases hmem g hg with h1 | rfl
      · have := h.each g h1
        exact ⟨this.1, this.2.1, this.2.2.1, by omega⟩
      · exact ⟨by simp [addG, newG, pickN], rfl, a3, by show 0 + 1 ≤ _; omega⟩

theorem ginv_fold {kc : List Int} {s : Int} : ∀ (R P : List (List Int)) (gs : List Gr), GInv kc.length s gs P → (∀ r ∈ R, valI (r.getD s.toNat 0)) → P.length + R.length ≤ 100000 → GInv kc.length s (R.foldl (stepG kc [s]) gs) (P ++ R)
  | [], P, gs, h, _, _ => by simpa using h
  | r :: R, P, gs, h, hv, hp => by
    rw [List.foldl_cons]
    have h1 := GInv.step h (row := r) (hv r (by simp)) (by simp at hp; omega)
    have h2 := ginv_fold R (P ++ [r]) _ h1 (fun x hx => hv x (by simp [hx])) (by simp at hp ⊢; omega)
    simpa using h2

theorem ginv {kc : List Int} {s : Int} {R : List (List Int)} (hv : ∀ r ∈ R, valI (r.getD s.toNat 0)) (hp : R.length ≤ 100000) : GInv kc.length s (groupsN kc [s] R) R := by
  have h0 : GInv kc.length s (startG kc [s]) [] := by
    unfold startG
    split
    · rename_i h
      subst h
      exact ⟨rfl, rfl, ⟨by rintro ⟨g, hg, h1⟩; rw [List.mem_singleton] at hg; subst hg; exact absurd rfl h1, by rintro ⟨r, hr, _⟩; simp at hr⟩, List.pairwise_singleton _ _, fun g hg => by rw [List.mem_singleton] at hg; subst hg; exact ⟨rfl, rfl, .inl rfl, Nat.le_refl _⟩⟩
    · exact ⟨rfl, rfl, ⟨by rintro ⟨g, hg, _⟩; simp at hg, by rintro ⟨r, hr, _⟩; simp at hr⟩, List.Pairwise.nil, fun g hg => by simp at hg⟩
  have := ginv_fold R [] _ h0 hv (by simpa using hp)
  unfold groupsN
  simpa using this

theorem one_len {s : Int} : ∀ (R : List (List Int)) (g : Gr), g.key = [] → ∃ g', R.foldl (stepG [] [s]) [g] = [g'] ∧ g'.key = []
  | [], g, h => ⟨g, rfl, h⟩
  | r :: R, g, h => by
    rw [List.foldl_cons]
    have e : stepG [] [s] [g] r = [addG r [s] g] := by
      unfold stepG findK
      simp [h, pickN]
    rw [e]
    exact one_len R (addG r [s] g) h

end Go.Scout

namespace Go.Scout
open Go.RowKit

/-- Rows that were gathered lie as a list of rows does. -/
theorem Gathered.rows {E : El IntsV (List Int)} {n0 : Nat} {w : World} {e : TypeId} {ys : List IntsV} {o : Nat → Prop} {W : World} {v : Value} (h : Gathered E n0 w e ys o W v) (hat : ∀ y, E.At y W → IntsV.At y W) (hl : ys.length ≤ 1000000) : ∃ ad cap, v = .slice ad ys.length cap ∧ RowsAt W ad ys := by
  obtain ⟨ad, cap, hv⟩ := ownsRow_len h.own
  refine ⟨ad, cap, hv, by omega, fun i hi => ?_, fun i hi => hat _ (h.at' _ (getD_in hi))⟩
  obtain ⟨g, cap', hv', hc⟩ := ownsRow_cell h.own hi
  rw [hv] at hv'
  rw [Value.slice.injEq] at hv'
  refine ⟨g, 0, hv'.1, ?_⟩
  rw [Nat.zero_add, hc, List.getElem?_map, List.getElem?_eq_getElem hi]
  simp [List.getD, hi]

/-- The query of a case, grouped. -/
def groupQ (q : QueryV) (k s : IntsV) : QueryV := ⟨q.src, q.wad, q.wcap, q.wh, true, k, s, ⟨none, 0, []⟩, ⟨none, 0, []⟩⟩

theorem group_check {ts : List TableD} {q : QueryV} {db : List RowsV} (h : CaseOk ts q db) (k s : IntsV) (hk : k.xs.length ≤ 1 ∧ allB k.xs (widthN ts q.src.xs) = true ∧ apartB k.xs = true) (hs : s.xs.length ≤ 1 ∧ allB s.xs (widthN ts q.src.xs) = true) : (groupQ q k s).check ts = 0 := by
  have hcat := cat_of_tabs h.tabs.1 h.tabs.2.1 h.tabs.2.2
  have hsr := h.qry.src
  have hw := h.qry.wh
  refine check_zero hcat ⟨hsr.1, hsr.2.1, by show q.src.xs.length ≤ 5; omega⟩ ⟨by show q.wh.length ≤ 8; omega, hw.2⟩ ⟨by show 0 ≤ 8; omega, by show k.xs.length ≤ 4; omega, by show s.xs.length ≤ 4; omega, by show 0 ≤ 4; omega⟩ ?_
  show restB (widthN ts q.src.xs) true k.xs s.xs [] [] = true
  unfold restB
  rw [hk.2.1, hk.2.2, hs.2]
  simp [allB, apartB]

/-- What the one group of all tells. -/
theorem groups_one {s : Int} {R : List (List Int)} (hv : ∀ r ∈ R, valI (r.getD s.toNat 0)) (hp : R.length ≤ 100000) : ∃ S, (groupsN [] [s] R).map Gr.row = [[(R.length : Int), S]] ∧ nnI S = (R.map fun r => nnI (r.getD s.toNat 0)).sum ∧ (S ≠ 1073741824 ↔ ∃ r ∈ R, r.getD s.toNat 0 ≠ 1073741824) := by
  have h := ginv (kc := []) hv hp
  have e : groupsN [] [s] R = R.foldl (stepG [] [s]) [newG [] 1] := rfl
  obtain ⟨g, hg, hgk⟩ := one_len (s := s) R (newG [] 1) rfl
  rw [e, hg] at h ⊢
  have he := h.each g (by simp)
  have h1 := h.cnt
  have h2 := h.sum
  have h3 := h.any
  simp only [List.map_cons, List.map_nil, List.sum_cons, List.sum_nil, Int.add_zero] at h1 h2
  obtain ⟨gk, gc, gss⟩ := g
  obtain ⟨x, rfl⟩ : ∃ x, gss = [x] := by
    match gss, he.2.1 with
    | [x], _ => exact ⟨x, rfl⟩
  refine ⟨x, ?_, h2, ?_⟩
  · have hk0 : gk = [] := hgk
    subst hk0
    show [[] ++ [(gc : Int)] ++ [x]] = _
    have h1' : (gc : Int) = R.length := h1
    rw [h1']
    rfl
  · rw [← h3]
    simp

end Go.Scout
namespace Go.Proofs.Ytlpbelhfpoilpaa
open Go.RowKit Go.Scout

set_option maxRecDepth 20000 in
set_option maxHeartbeats 4000000 in
theorem broad_any (ao : Option Addr) (cap : Nat) (ys : List IntsV) (n : Nat) (w : World) (h : RowsAt w ao ys) (hl : ys.length ≤ 1000000) (hall : ∀ y ∈ ys, y.xs.length = n) :
    Calls Try.prog 18 #[.slice ao ys.length cap, .int .i64 n] w fun e w' => e = .returned (.bool true) ∧ w' = w := by
  have HR : Hid _ := h
  have HA : Hid _ := hall
  clear h hall
  go_enter Try.func18, Try.ntmps18
  go_wp2
  go_loopw [5] (fun i wr => ∃ k : Nat, k ≤ ys.length ∧ i = .int .i64 k ∧ w = wr) (fun i _ => ys.length - (intOf i).toNat)
  case atStart => exact ⟨0, Nat.zero_le _, rfl, rfl⟩
  case round =>
    obtain ⟨k, hk, rfl, rfl⟩ := hrel
    by_cases hlt : k < ys.length
    · obtain ⟨b, off, rfl, hcs⟩ := HR.out.2.1.get hlt
      have hck := hcs k hlt
      have hln := HA.out _ (getD_in (d := iz) hlt)
      generalize ys.getD k iz = y at *
      obtain ⟨yad, ycap, yxs⟩ := y
      simp only at hln
      have hck' : w.cell? ⟨b, off + k, none⟩ = some (.slice yad n ycap) := by rw [← hln]; exact hck
      clear hck hcs hln
      go_wp2
      go_roundw
      case rel => exact ⟨k + 1, by omega, by go_num, trivial⟩
      case measure => simp [intOf]; omega
    · obtain rfl : k = ys.length := by omega
      go_wp2
      go_ret
      exact ⟨rfl, rfl⟩

end Go.Proofs.Ytlpbelhfpoilpaa

namespace Go.Scout
open Go.RowKit

/-- Rows that lie off a block. -/
structure RowsOff (W : World) (C : Nat) (ad : Option Addr) (ys : List IntsV) : Prop where
  rows : RowsAt W ad ys
  off : ∀ a, ad = some a → a.block ≠ C
  each : ∀ y ∈ ys, ∀ a, y.ad = some a → a.block ≠ C

theorem RowsOff.keep {A B : World} {C : Nat} {ad : Option Addr} {ys : List IntsV} (h : RowsOff A C ad ys) (hk : Kept (fun b => b ≠ C) A B) : RowsOff B C ad ys := by
  refine ⟨⟨h.rows.1, h.rows.2.1.keep (fun a ha hl => hk.block _ hl (h.off a ha)), fun i hi => ?_⟩, h.off, h.each⟩
  exact IntsAt.keep (h.rows.2.2 i hi) (fun a ha hl => hk.block _ hl (h.each _ (getD_in hi) a ha))

theorem ownsRow_off {W : World} {base : Nat} {e t : TypeId} {n m c : Nat} {ad : Option Addr} {xs : List Value} {C : Nat} {cs : Array Value} (h : W.ownsRow base e 1 (.slice ad m c) n xs) (hC : W.heap[C]? = some (.cells cs t)) (hne : e ≠ t) : ∀ a, ad = some a → a.block ≠ C := by
  rintro a rfl rfl
  rcases h.2 with ⟨h0, _⟩ | ⟨g, cap, cur, hv, _, hg, _⟩
  · rw [Value.slice.injEq] at h0
    simp at h0
  · rw [Value.slice.injEq] at hv
    have ha : a = ⟨g, 0, none⟩ := by
      have := hv.1
      injection this
    subst ha
    rw [hg] at hC
    injection hC with hC
    injection hC with _ hC
    exact hne hC

theorem Gathered.rowsOff {ti tr t : TypeId} {n0 : Nat} {w : World} {ys : List IntsV} {o : Nat → Prop} {W : World} {v : Value} {C : Nat} {cs : Array Value} (h : Gathered (ownEl ti) n0 w tr ys o W v) (hl : ys.length ≤ 1000000) (hC : W.heap[C]? = some (.cells cs t)) (h1 : ti ≠ t) (h2 : tr ≠ t) : ∃ ad cap, v = .slice ad ys.length cap ∧ RowsOff W C ad ys := by
  obtain ⟨ad, cap, rfl, hr⟩ := h.rows (fun y hy => hy.1.1) hl
  refine ⟨ad, cap, rfl, hr, ownsRow_off h.own hC h2, fun y hy => ?_⟩
  exact ownsRow_off (h.at' y hy).2 hC h1

end Go.Scout
namespace Go.Proofs.Ytlpbelhfpoilpaa
open Go.RowKit Go.Scout

theorem group_at (W : World) (ts : List TableD) (q : QueryV) (db : List RowsV) (co d : Option Addr) (cc dc : Nat) (k s : IntsV) (C : Nat) (cs : Array Value) (hC : W.heap[C]? = some (.cells cs 41)) (hok : CaseOk ts q db) (hsc : q.src.xs.length ≤ q.src.cap) (hts : TablesAt W co ts) (hq : (groupQ q k s).At W) (hkc : k.xs.length ≤ k.cap) (hdb : DbHad W d db)
    (hk : k.xs.length ≤ 1 ∧ allB k.xs (widthN ts q.src.xs) = true ∧ apartB k.xs = true) (hs : s.xs.length ≤ 1 ∧ allB s.xs (widthN ts q.src.xs) = true) (hlen : ((groupsN k.xs s.xs ((combosN q.src.xs db).filter (holdsB q.wh))).map Gr.row).length ≤ 1000000) :
    Calls Try.prog 17 #[.slice co ts.length cc, .agg (groupQ q k s).cells, .slice d db.length dc] W fun e w' => ∃ (ad : Option Addr) (cap : Nat) (ys : List IntsV), e = .returned (.tuple #[.slice ad ys.length cap, .int .i64 0]) ∧ ys.map IntsV.xs = (groupsN k.xs s.xs ((combosN q.src.xs db).filter (holdsB q.wh))).map Gr.row ∧ RowsOff w' C ad ys ∧ Below W.heap.size W w' := by
  have h := evalG_any co d cc dc ts (groupQ q k s) db W hts hq hkc (Nat.le_refl _) hsc hdb rfl rfl (group_check hok k s hk hs) (hok.data (by have := hok.qry.src; exact this.2.2))
  refine h.mono ?_
  rintro e w' ⟨v, ys, o, w1, rfl, hy, hg, hb⟩
  have hb' : Below W.heap.size W w' := hb.trans (hg.below.mono hb.size)
  have hl : ys.length ≤ 1000000 := by
    have e := congrArg List.length hy
    rw [List.length_map] at e
    rw [e]
    exact hlen
  obtain ⟨ad, cap, rfl, hr⟩ := hg.rowsOff hl (t := 41) ((hb'.block _ (Array.getElem?_eq_some_iff.1 hC).1).trans hC) (by decide) (by decide)
  exact ⟨ad, cap, ys, rfl, hy, hr, hb'⟩

end Go.Proofs.Ytlpbelhfpoilpaa

namespace Go.Scout
open Go.RowKit

theorem tabN_val {ts : List TableD} {db : List RowsV} (h : dbB ts db = true) (t : Int) : ∀ r ∈ tabN db t, ∀ v ∈ r, valI v := by
  intro r hr v hv
  unfold tabN at hr
  obtain ⟨x, hx, rfl⟩ := List.mem_map.1 hr
  by_cases hi : t.toNat < db.length
  · unfold dbB at h
    rw [List.all_eq_true] at h
    have h1 := h t.toNat (List.mem_range.2 hi)
    unfold tabB fitB at h1
    rw [Bool.and_eq_true, List.all_eq_true] at h1
    have h2 := h1.2 x hx
    unfold rowB at h2
    rw [Bool.and_eq_true, List.all_eq_true] at h2
    have h3 := h2.2 v hv
    unfold valB at h3
    simp only [Bool.or_eq_true, Bool.and_eq_true, decide_eq_true_eq] at h3
    unfold valI
    omega
  · have e : db.getD t.toNat rz = rz := by simp [List.getD, List.getElem?_eq_none (Nat.le_of_not_lt hi)]
    rw [e] at hx
    simp [rz] at hx

theorem joinN_val {L R : List (List Int)} (hL : ∀ r ∈ L, ∀ v ∈ r, valI v) (hR : ∀ r ∈ R, ∀ v ∈ r, valI v) : ∀ r ∈ joinN L R, ∀ v ∈ r, valI v := by
  intro r hr v hv
  unfold joinN at hr
  obtain ⟨x, hx, hr⟩ := List.mem_flatMap.1 hr
  obtain ⟨y, hy, rfl⟩ := List.mem_map.1 hr
  rcases List.mem_append.1 hv with h | h
  · exact hL x hx v h
  · exact hR y hy v h

theorem foldJ_val : ∀ (ts : List (List (List Int))) (t : List (List Int)), (∀ r ∈ t, ∀ v ∈ r, valI v) → (∀ u ∈ ts, ∀ r ∈ u, ∀ v ∈ r, valI v) → ∀ r ∈ ts.foldl joinN t, ∀ v ∈ r, valI v
  | [], _, h, _ => h
  | u :: ts, t, h, hs => foldJ_val ts (joinN t u) (joinN_val h (hs u (by simp))) (fun x hx => hs x (by simp [hx]))

theorem combos_val {ts : List TableD} {db : List RowsV} (h : dbB ts db = true) (src : List Int) : ∀ r ∈ combosN src db, ∀ v ∈ r, valI v := by
  unfold combosN
  cases src with
  | nil => intro r hr; simp [combosT] at hr
  | cons a l =>
    rw [List.map_cons]
    refine foldJ_val _ _ (tabN_val h a) (fun u hu => ?_)
    obtain ⟨c, _, rfl⟩ := List.mem_map.1 hu
    exact tabN_val h c

/-- The rows that a case's query keeps: how many, and what they hold. -/
theorem case_kept {ts : List TableD} {q : QueryV} {db : List RowsV} (h : CaseOk ts q db) {s : Int} (hs : 0 ≤ s ∧ s < widthN ts q.src.xs) : (∀ r ∈ (combosN q.src.xs db).filter (holdsB q.wh), valI (r.getD s.toNat 0)) ∧ ((combosN q.src.xs db).filter (holdsB q.wh)).length ≤ 20000 := by
  have hdat : dataB ts q.src.xs db = true := h.data (by have := h.qry.src; exact this.2.2)
  have hdd : (db.length = ts.length ∧ dbB ts db = true) ∧ prodN q.src.xs db ≤ 20000 := by
    unfold dataB at hdat
    simp only [Bool.and_eq_true, decide_eq_true_eq] at hdat
    exact hdat
  refine ⟨fun r hr => ?_, ?_⟩
  · have hm := (List.mem_filter.1 hr).1
    have hl := combos_len (src := q.src.xs) hdd.1.2 r hm
    exact combos_val hdd.1.2 q.src.xs r hm _ (getD_in (by omega))
  · have h1 := List.length_filter_le (holdsB q.wh) (combosN q.src.xs db)
    have h2 := combos_count q.src.xs db
    have h3 := hdd.2
    omega

theorem case_groups {ts : List TableD} {q : QueryV} {db : List RowsV} (h : CaseOk ts q db) (k s : List Int) : ((groupsN k s ((combosN q.src.xs db).filter (holdsB q.wh))).map Gr.row).length ≤ 1000000 := by
  have hdat : dataB ts q.src.xs db = true := h.data (by have := h.qry.src; exact this.2.2)
  have hdd : (db.length = ts.length ∧ dbB ts db = true) ∧ prodN q.src.xs db ≤ 20000 := by
    unfold dataB at hdat
    simp only [Bool.and_eq_true, decide_eq_true_eq] at hdat
    exact hdat
  rw [List.length_map]
  have h1 := List.length_filter_le (holdsB q.wh) (combosN q.src.xs db)
  have h2 := combos_count q.src.xs db
  have h3 := hdd.2
  have h4 := groupsN_len k s ((combosN q.src.xs db).filter (holdsB q.wh))
  omega

theorem allB_one {p n : Int} (h : 0 ≤ p ∧ p < n) : allB [p] n = true := by
  simp [allB, h.1, h.2]

theorem apartB_one (p : Int) : apartB [p] = true := by
  unfold apartB
  rw [decide_eq_true_eq]
  intro i hi j hj
  simp at hi
  omega

end Go.Scout

