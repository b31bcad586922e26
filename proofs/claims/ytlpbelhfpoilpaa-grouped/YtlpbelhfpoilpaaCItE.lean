import Derived.Test.YtlpbelhfpoilpaaCCatAItD
set_option linter.all false
namespace Go.Scout
open Go.RowKit

def joinN (L R : List (List Int)) : List (List Int) := L.flatMap fun a => R.map fun b => a ++ b
theorem joinN_snoc (L R : List (List Int)) (a : List Int) : joinN (L ++ [a]) R = joinN L R ++ R.map (fun b => a ++ b) := by simp [joinN, List.flatMap_append]
theorem joinN_pre {L L' R : List (List Int)} (h : L <+: L') : joinN L R <+: joinN L' R := by
  obtain ⟨t, rfl⟩ := h
  exact ⟨joinN t R, by simp [joinN, List.flatMap_append]⟩

/-- What was gathered is a table that lies in memory. -/
theorem Gathered.had {n0 : Nat} {w : World} {e : TypeId} {ys : List IntsV} {o : Nat → Prop} {W : World} {v : Value} (h : Gathered rowEl n0 w e ys o W v) (hl : ys.length ≤ 1000000) :
    ∃ ad cap, v = .slice ad ys.length cap ∧ RowsHad W ad ys ∧ ∀ a, ad = some a → w.heap.size < a.block := by
  have hat : ∀ i, i < ys.length → rowEl.At (ys.getD i iz) W := fun i hi => by
    have : ys.getD i iz ∈ ys := by simp [List.getD, hi]
    exact h.at' _ this
  have hrn : ys.map IntsV.val = ys.map IntsV.val := rfl
  rcases h.own.2 with ⟨hv, h0⟩ | ⟨g, cap, cur, hv, hb, hh, hc1, hc2, hc3, ht⟩
  · have : ys = [] := List.eq_nil_of_length_eq_zero h0
    subst this
    exact ⟨none, 0, hv, ⟨⟨by simp, fun i hi => absurd hi (by simp), fun i hi => absurd hi (by simp)⟩, (fun a ha => by cases ha), fun i hi => absurd hi (by simp)⟩, fun a ha => by cases ha⟩
  · refine ⟨some ⟨g, 0, none⟩, cap, hv, ⟨⟨by omega, fun i hi => ⟨g, 0, rfl, ?_⟩, fun i hi => (hat i hi).1⟩, fun a ha => ?_, hat⟩, fun a ha => by cases ha; exact hb⟩
    · have h2 : (cur.toList.take (ys.length * 1))[i]? = some (ys.getD i iz).val := by
        rw [ht]
        simp [List.getD, hi]
      have h3 : cur[i]? = some (ys.getD i iz).val := by
        rw [List.getElem?_take] at h2
        split at h2
        · simpa using h2
        · cases h2
      simp only [World.cell?, hh]
      simpa using h3
    · cases ha; exact (Array.getElem?_eq_some_iff.1 hh).1

theorem RowsHad.keep {A B : World} {ao : Option Addr} {rs : List IntsV} (h : RowsHad A ao rs) (hs : A.heap.size ≤ B.heap.size) (h1 : ∀ a, ao = some a → B.heap[a.block]? = A.heap[a.block]?) (h2 : ∀ i, i < rs.length → ∀ b, rowEl.blk (rs.getD i iz) = some b → B.heap[b]? = A.heap[b]?) : RowsHad B ao rs := by
  have hat : ∀ i, i < rs.length → rowEl.At (rs.getD i iz) B := fun i hi => rowEl.keep (h.2.2 i hi) hs (fun b _ hb => h2 i hi b hb)
  exact ⟨⟨h.1.1, h.1.2.1.keep (fun a ha _ => h1 a ha), fun i hi => (hat i hi).1⟩, fun a ha => Nat.lt_of_lt_of_le (h.2.1 a ha) hs, hat⟩

end Go.Scout
namespace Go.Proofs.Ytlpbelhfpoilpaa
open Go.RowKit Go.Scout Go.Shelf

attribute [local go_sem] Oper.semAt_some

set_option maxRecDepth 100000 in
set_option maxHeartbeats 8000000 in
theorem loop_seq (br bl gr gl : Nat) (lbr lbl : Array Value) (L R : List (List Int)) (w0 : World) (hbr : br < w0.heap.size) (hbl : bl < w0.heap.size)
    (hcr : w0.cell? ⟨br, 0, none⟩ = some (.func (.func gr) #[] lbr)) (hcl : w0.cell? ⟨bl, 0, none⟩ = some (.func (.func gl) #[] lbl))
    (hsr : Seq rowEl Try.prog gr lbr R w0) (hsl : Seq rowEl Try.prog gl lbl L w0)
    (egr : ∀ args w, (callFunc gr args).run Try.prog w = .ok (.enter gr args) w) (egl : ∀ args w, (callFunc gl args).run Try.prog w = .ok (.enter gl args) w)
    (hR : R.length ≤ 1000000) (hLl : ∀ a ∈ L, a.length ≤ 1000) (hRl : ∀ a ∈ R, a.length ≤ 1000) :
    Seq rowEl Try.prog 85 #[.pointer (some ⟨br, 0, none⟩), .pointer (some ⟨bl, 0, none⟩)] (joinN L R) w0 := by
  intro l J W o hW ho hJ hY h0
  have hcrW := (hW.cell (p := ⟨br, 0, none⟩) hbr).trans hcr
  have hclW := (hW.cell (p := ⟨bl, 0, none⟩) hbl).trans hcl
  have HY : Hid _ := hY
  have HO : Hid _ := ho
  have HW : Hid _ := hW
  have HJ : Hid _ := hJ
  have HR : Hid _ := hR
  have HLl : Hid _ := hLl
  have HRl : Hid _ := hRl
  have HBL : Hid _ := hbl
  have hb1 : Below W.heap.size W (W.alloc (.cells #[.func (.yield l) #[] #[]] 73)) := below_alloc _ _
  have hcr1 := (hb1.cell (p := ⟨br, 0, none⟩) (Nat.lt_of_lt_of_le hbr HW.out.size)).trans hcrW
  have hcl1 := (hb1.cell (p := ⟨bl, 0, none⟩) (Nat.lt_of_lt_of_le hbl HW.out.size)).trans hclW
  have hcy1 : (W.alloc (.cells #[.func (.yield l) #[] #[]] 73)).cell? ⟨W.heap.size, 0, none⟩ = some (.func (.yield l) #[] #[]) := by simp
  have hs1 : (W.alloc (.cells #[.func (.yield l) #[] #[]] 73)).heap.size = W.heap.size + 1 := by simp
  clear hY ho hW hJ hcr hcl hR hLl hRl hcrW hclW hbl hbr
  refine (callsIn_wide (n := 0)).1 (callsIn_of_wp_marks Try.func85 rfl trivial ?_ rfl)
  simp only [Try.ntmps85, List.size_toArray, List.length_cons, List.length_nil, Nat.reduceAdd, Nat.reduceSub, Array.replicate_succ, Array.replicate_zero, List.push_toArray, List.append_toArray, List.nil_append, List.cons_append]
  gi_wp2
  obtain ⟨w1, hw1⟩ : ∃ w1, W.alloc (.cells #[.func (.yield l) #[] #[]] 73) = w1 := ⟨_, rfl⟩
  rw [hw1] at hb1 hcr1 hcl1 hcy1 hs1
  rw [hw1]
  clear hw1
  have hb01 : Below w0.heap.size w0 w1 := HW.out.trans (hb1.mono HW.out.size)
  refine ⟨trivial, rfl, callsIn_wide.2 ((gather_any rowEl (fun _ => rfl) gr lbr R w0 w1 hb01 HR.out hsr egr).mono ?_)⟩
  rintro e w2 ⟨v, ys, og, rfl, hys, hG⟩
  have hyl : ys.length ≤ 1000000 := by
    have := congrArg List.length hys
    rw [List.length_map] at this
    rw [this]; exact HR.out
  obtain ⟨iad, icap, rfl, hhad, hadb⟩ := hG.had hyl
  have hb2 := hG.below
  have hs2 := hb2.size
  have hcl2 := cell_below hb2 hcl1
  have hcy2 := cell_below hb2 hcy1
  have hborn := hG.born
  have HG : Hid _ := hG
  have HYS : Hid _ := hys
  have HH : Hid _ := hhad
  have HAB : Hid _ := hadb
  have HBN : Hid _ := hborn
  have hcl3 := cell_below (below_alloc w2 (.cells #[.slice iad ys.length icap] 53)) hcl2
  clear hG hys hhad hadb hborn
  gi_wp2
  have hk23 : ∀ s, Kept s w2 (w2.alloc (.cells #[.slice iad ys.length icap] 53)) := fun s => Kept.alloc _ _
  have hs3 : (w2.alloc (.cells #[.slice iad ys.length icap] 53)).heap.size = w2.heap.size + 1 := by simp
  have hci3 : (w2.alloc (.cells #[.slice iad ys.length icap] 53)).cell? ⟨w2.heap.size, 0, none⟩ = some (.slice iad ys.length icap) := by simp
  have hcy3 := cell_below (below_alloc w2 (.cells #[.slice iad ys.length icap] 53)) hcy2
  obtain ⟨w3, hw3⟩ : ∃ w3, w2.alloc (.cells #[.slice iad ys.length icap] 53) = w3 := ⟨_, rfl⟩
  rw [hw3] at hk23 hs3 hci3 hcy3 hcl3
  rw [hw3]
  clear hw3
  have hkW3 : ∀ s, Kept s W w3 := fun s => ((Kept.of_below hb1 (fun b hb _ => hb)).trans (Kept.of_below hb2 (fun b hb _ => hb))).trans (hk23 s)
  have hb03 : Below w0.heap.size w0 w3 := HW.out.trans ((hkW3 (fun _ => True)).below HW.out.size (fun _ _ => trivial))
  have hH3 : RowsHad w3 iad ys := RowsHad.keep HH.out (hk23 (fun _ => True)).size (fun a ha => (hk23 (fun _ => True)).block _ (HH.out.2.1 a ha) trivial) (fun i hi b hb => (hk23 (fun _ => True)).block _ (rowEl.inn (HH.out.2.2 i hi) hb) trivial)
  have HI3 : Hid (∀ a, iad = some a → W.heap.size ≤ a.block ∧ a.block < w3.heap.size) := fun a ha => ⟨by have := HAB.out a ha; omega, by have := HH.out.2.1 a ha; omega⟩
  have HR3 : Hid (∀ i, i < ys.length → ∀ b, rowEl.blk (ys.getD i iz) = some b → (b < w0.heap.size ∨ W.heap.size ≤ b) ∧ b < w3.heap.size) := fun i hi b hb => by
    have hm : ys.getD i iz ∈ ys := by simp [List.getD, hi]
    exact ⟨(HBN.out _ hm b hb).imp id (by omega), by have := rowEl.inn (HH.out.2.2 i hi) hb; omega⟩
  have HH3 : Hid _ := hH3
  have HKW3 : Hid _ := hkW3
  have HS : Hid (w3.heap.size = w2.heap.size + 1 ∧ w1.heap.size = W.heap.size + 1 ∧ w1.heap.size ≤ w2.heap.size) := ⟨hs3, hs1, hs2⟩
  clear hH3 hkW3 hk23 hs3 hs1 hs2 hcl1 hcl2 hcy1 hcy2 hb1 hb2 hcr1 hcl3
  refine wp_range rowEl (gf := gl) (lb := lbl) rfl egl hsl hb03 rfl
    (fun pre o1 W' => ∃ zs, zs.map rowEl.key = joinN (pre.map rowEl.key) R ∧ J zs o1 W' ∧ Kept (fun b => ¬ o b) w3 W' ∧ ∀ b, o1 b → o b ∨ (w3.heap.size ≤ b ∧ b < W'.heap.size))
    o ?_ ?_ ?_ (fun x => { tmps := #[.func (.yield l) #[] #[], .pointer (some ⟨br, 0, none⟩), .pointer (some ⟨bl, 0, none⟩), .pointer (some ⟨W.heap.size, 0, none⟩), .pointer (some ⟨w2.heap.size, 0, none⟩), x.val, .func (.func gr) #[] lbr, .slice iad ys.length icap, .func (.func gl) #[] lbl, x.val, undef, undef, undef, undef, undef], defers := [] }) ?assign ?body ?done
  · intro b hb
    exact ⟨(HO.out b hb).1, by have := (HO.out b hb).2; have := (HKW3.out (fun _ => True)).size; omega⟩
  · rintro pre o1 A B ⟨zs, hz, hj, hk, hg⟩ hkk
    have h1 := (HKW3.out (fun _ => True)).size
    exact ⟨zs, hz, HJ.out _ _ _ _ hj (hkk.mono fun b _ h => h.imp id (by omega)), hk.trans' hkk (fun b hb _ => .inr hb), fun b h => (hg b h).imp id (fun h => ⟨h.1, by have := hkk.size; omega⟩)⟩
  · exact ⟨[], rfl, HJ.out _ _ _ _ h0 (HKW3.out _), Kept.refl _ _, fun b h => .inl h⟩
  case assign =>
    intro l x W K hK
    gi_wp2
    exact hK
  case body =>
    rintro l2 pre x o1 W2 ⟨zs, hz, hj, hk, hg⟩ hpre hx hoff hsz
    have h3 := (HKW3.out (fun _ => True)).size
    have hkz := hk.size
    have hS := HS.out
    have hnW : ∀ b, W.heap.size ≤ b → ¬ o b := fun b hb h => by have := (HO.out b h).2; omega
    have hn0 : ∀ b, b < w0.heap.size → ¬ o b := fun b hb h => by have := (HO.out b h).1; omega
    have hn1 : ∀ b, b < w3.heap.size → ¬ o b → ¬ o1 b := fun b hb h h' => by
      rcases hg b h' with h' | h'
      · exact h h'
      · omega
    have hci : W2.cell? ⟨w2.heap.size, 0, none⟩ = some (.slice iad ys.length icap) := cell_keep hci3 hk (hnW _ (by show W.heap.size ≤ w2.heap.size; omega))
    have hcy : W2.cell? ⟨W.heap.size, 0, none⟩ = some (.func (.yield l) #[] #[]) := cell_keep hcy3 hk (hnW _ (Nat.le_refl _))
    have hrb : ∀ i, i < ys.length → ∀ b, rowEl.blk (ys.getD i iz) = some b → ¬ o b := fun i hi b hb => by
      rcases (HR3.out i hi b hb).1 with h | h
      · exact hn0 b h
      · exact hnW b h
    have hH : RowsHad W2 iad ys := RowsHad.keep HH3.out hkz (fun a ha => hk.block _ (HI3.out a ha).2 (hnW _ (HI3.out a ha).1)) (fun i hi b hb => hk.block _ (HR3.out i hi b hb).2 (hrb i hi b hb))
    have hpq : zs.map rowEl.key ++ ys.map (fun r => x.xs ++ r.xs) <+: joinN L R := by
      have e1 : ys.map (fun r => x.xs ++ r.xs) = R.map (fun b => x.xs ++ b) := by rw [← HYS.out, List.map_map]; rfl
      rw [e1, hz, ← joinN_snoc]
      have e2 : pre.map rowEl.key ++ [x.xs] = (pre ++ [x]).map rowEl.key := by rw [List.map_append]; rfl
      rw [e2]
      exact joinN_pre hpre
    have hp := pair_any l W.heap.size J (joinN L R) w0.heap.size x iad icap ys zs o1 W2 HJ.out HY.out (by omega) hj hpq hx (fun b hb => (hoff b hb).1) (HLl.out _ (mem_of_pre hpre)) hH
      (fun a ha => hn1 _ (HI3.out a ha).2 (hnW _ (HI3.out a ha).1))
      (fun i hi a ha => hn1 _ (HR3.out i hi a.block (by show Option.map _ _ = _; rw [ha]; rfl)).2 (hrb i hi a.block (by show Option.map _ _ = _; rw [ha]; rfl)))
      (fun i hi => HRl.out _ (by rw [← HYS.out]; exact List.mem_map.2 ⟨ys.getD i iz, by simp [List.getD, hi], rfl⟩))
      (fun b h => by
        rcases hg b h with h | h
        · have := (HO.out b h).2; omega
        · exact h.2)
    have HZ : Hid _ := hz
    have HK : Hid _ := hk
    have HGG : Hid _ := hg
    have HX : Hid _ := hx
    clear hz hk hg hj hx hoff hpre hH hrb hn1 hnW hn0 hpq
    obtain ⟨xad, xcap, xxs⟩ := x
    unfold IntsV.val at hp ⊢
    simp only at hp ⊢
    gi_wp2
    refine ⟨trivial, rfl, CallsIn.inRound l2 (callsIn_wide.2 (hp.mono ?_))⟩
    rintro e W4 ⟨rfl, us, o2, hus, hj4, hk4, hg4⟩
    gi_wp2
    refine ⟨o2, ⟨zs ++ us, ?_, hj4, HK.out.trans' hk4 ?_, ?_⟩, hk4, ?_⟩
    · rw [List.map_append, List.map_append, HZ.out, hus]
      show _ = joinN (pre.map rowEl.key ++ [xxs]) R
      rw [joinN_snoc, ← HYS.out, List.map_map]
      rfl
    · intro b hb h h'
      rcases HGG.out b h' with h' | h'
      · exact h h'
      · omega
    · intro b hb
      have := hk4.size
      rcases hg4 b hb with h | h
      · exact (HGG.out b h).imp id (fun h => ⟨h.1, by omega⟩)
      · exact .inr ⟨by omega, h.2⟩
    · intro b hb
      exact (hg4 b hb).imp id .inl
  case done =>
    rintro us o' W2 hus ⟨zs, hz, hj, hk, hg⟩ hk2 hg2 hD
    have h3 := (HKW3.out (fun _ => True)).size
    gi_wp2
    have hnD : ¬ o' w3.heap.size := fun h => by
      rcases hg2 _ h with h | h
      · have := (HO.out _ h).2; omega
      · omega
    have hkD : Kept (fun b => b ≠ w3.heap.size) W2 (W2.putObj w3.heap.size (.deferred none)) := Kept.putObj _ _ (fun h => h rfl)
    refine ⟨by simp, .inl ⟨_, _, rfl, run_takeDeferred hD, ?_⟩⟩
    refine ⟨_, results_none rfl _ _ _, ⟨_, rfl⟩, zs, o', ?_, HJ.out _ _ _ _ hj (hkD.mono fun b _ h => ?_), ((HKW3.out _).trans' hk (fun b _ h => h)).trans' hkD (fun b hb _ => by omega), fun b h => (hg b h).imp id (fun h => ⟨by omega, by rw [World.putObj_size]; omega⟩)⟩
    · rw [hz, hus]
    · rcases h with h | h
      · intro e; exact hnD (e ▸ h)
      · omega

end Go.Proofs.Ytlpbelhfpoilpaa

