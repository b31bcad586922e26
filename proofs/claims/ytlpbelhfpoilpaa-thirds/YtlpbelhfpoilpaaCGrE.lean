import Derived.Deep.RegionHeld3
import Derived.Test.YtlpbelhfpoilpaaCCatAItD
import Derived.Test.YtlpbelhfpoilpaaCGrC
set_option linter.all false
namespace Go.Proofs.Ytlpbelhfpoilpaa
open Go.RowKit Go.Scout

set_option maxRecDepth 20000 in
set_option maxHeartbeats 8000000 in
theorem groupRow_any (gb sb : Nat) (k : IntsV) (cnt : Nat) (ss : List Int) (w : World)
    (hg : w.heap[gb]? = some (.cells #[k.val, .int .i64 cnt, .slice (some ⟨sb, 0, none⟩) ss.length ss.length] 137)) (hs : w.heap[sb]? = some (.cells (ss.map (Value.int .i64)).toArray 3)) (hk : k.At w) (hkn : k.ad = none → k.cap = 0) (hkl : k.xs.length ≤ 4) (hsl : ss.length ≤ 4) (hcnt : cnt ≤ 1000000) :
    Calls Try.prog 94 #[.pointer (some ⟨gb, 0, none⟩)] w fun e w' => ∃ v, e = .returned v ∧ w'.ownsRow w.heap.size 3 1 v (k.xs ++ [(cnt : Int)] ++ ss).length ((k.xs ++ [(cnt : Int)] ++ ss).map (Value.int .i64)) ∧ Below w.heap.size w w' := by
  have c0 : w.cell? ⟨gb, 0, none⟩ = some k.val := cells_cell hg rfl
  have c1 : w.cell? ⟨gb, 1, none⟩ = some (.int .i64 cnt) := cells_cell hg rfl
  have c2 : w.cell? ⟨gb, 2, none⟩ = some (.slice (some ⟨sb, 0, none⟩) ss.length ss.length) := cells_cell hg rfl
  have hgl : gb < w.heap.size := (Array.getElem?_eq_some_iff.1 hg).1
  obtain ⟨kad, kcap, kxs⟩ := k
  unfold IntsV.val at *
  simp only at *
  have hga : IntsAt w (some ⟨sb, 0, none⟩) ss := ⟨by omega, fun i hi => ⟨sb, 0, rfl, by rw [Nat.zero_add]; exact cells_cell hs (by simp [List.getD, hi])⟩⟩
  have HK : Hid _ := hk
  have HA : Hid _ := hga
  have HKN : Hid _ := hkn
  clear hg hs hk hga
  have hcat : Hid (Calls Try.prog 99 #[.slice (some ⟨w.heap.size + 1, 0, none⟩) 3 3] ((w.alloc (.cells #[.int .i64 cnt] 3)).alloc (.cells #[.slice kad kxs.length kcap, .slice (some ⟨w.heap.size, 0, none⟩) 1 1, .slice (some ⟨sb, 0, none⟩) ss.length ss.length] 23)).drew
      fun e w' => ∃ v, e = .returned v ∧ w'.ownsRow w.heap.size 3 1 v (kxs ++ [(cnt : Int)] ++ ss).length ((kxs ++ [(cnt : Int)] ++ ss).map (Value.int .i64)) ∧ Below w.heap.size w w') := by
    have hb1 := below_alloc w (.cells #[.int .i64 cnt] 3)
    have hb2 := below_alloc (w.alloc (.cells #[.int .i64 cnt] 3)) (.cells #[.slice kad kxs.length kcap, .slice (some ⟨w.heap.size, 0, none⟩) 1 1, .slice (some ⟨sb, 0, none⟩) ss.length ss.length] 23)
    have hbw : Below w.heap.size w ((w.alloc (.cells #[.int .i64 cnt] 3)).alloc (.cells #[.slice kad kxs.length kcap, .slice (some ⟨w.heap.size, 0, none⟩) 1 1, .slice (some ⟨sb, 0, none⟩) ss.length ss.length] 23)).drew := (hb1.trans (hb2.mono hb1.size)).drew
    have hc1 : (((w.alloc (.cells #[.int .i64 cnt] 3)).alloc (.cells #[.slice kad kxs.length kcap, .slice (some ⟨w.heap.size, 0, none⟩) 1 1, .slice (some ⟨sb, 0, none⟩) ss.length ss.length] 23)).drew).heap[w.heap.size]? = some (.cells #[.int .i64 cnt] 3) := (Below.heap_alloc (w.alloc (.cells #[.int .i64 cnt] 3)) _ _ (by simp)).trans (heap_alloc_new _ _)
    have hc2 : (((w.alloc (.cells #[.int .i64 cnt] 3)).alloc (.cells #[.slice kad kxs.length kcap, .slice (some ⟨w.heap.size, 0, none⟩) 1 1, .slice (some ⟨sb, 0, none⟩) ss.length ss.length] 23)).drew).heap[w.heap.size + 1]? = some (.cells #[.slice kad kxs.length kcap, .slice (some ⟨w.heap.size, 0, none⟩) 1 1, .slice (some ⟨sb, 0, none⟩) ss.length ss.length] 23) := by
      have h := heap_alloc_new (w.alloc (.cells #[.int .i64 cnt] 3)) (.cells #[.slice kad kxs.length kcap, .slice (some ⟨w.heap.size, 0, none⟩) 1 1, .slice (some ⟨sb, 0, none⟩) ss.length ss.length] 23)
      rw [World.size_alloc] at h
      exact h
    have hsz : (((w.alloc (.cells #[.int .i64 cnt] 3)).alloc (.cells #[.slice kad kxs.length kcap, .slice (some ⟨w.heap.size, 0, none⟩) 1 1, .slice (some ⟨sb, 0, none⟩) ss.length ss.length] 23)).drew).heap.size = w.heap.size + 2 := by
      show ((w.alloc (.cells #[.int .i64 cnt] 3)).alloc (.cells #[.slice kad kxs.length kcap, .slice (some ⟨w.heap.size, 0, none⟩) 1 1, .slice (some ⟨sb, 0, none⟩) ss.length ss.length] 23)).heap.size = _
      simp
    generalize ((w.alloc (.cells #[.int .i64 cnt] 3)).alloc (.cells #[.slice kad kxs.length kcap, .slice (some ⟨w.heap.size, 0, none⟩) 1 1, .slice (some ⟨sb, 0, none⟩) ss.length ss.length] 23)).drew = V at *
    have hflat : flatI [⟨kad, kcap, kxs⟩, ⟨some ⟨w.heap.size, 0, none⟩, 1, [(cnt : Int)]⟩, ⟨some ⟨sb, 0, none⟩, ss.length, ss⟩] = kxs ++ [(cnt : Int)] ++ ss := by simp [flatI]
    have h := concat_any (some ⟨w.heap.size + 1, 0, none⟩) 3 [⟨kad, kcap, kxs⟩, ⟨some ⟨w.heap.size, 0, none⟩, 1, [(cnt : Int)]⟩, ⟨some ⟨sb, 0, none⟩, ss.length, ss⟩] V ?_ (by simp) ?_ ?_
    · rw [hflat] at h
      refine h.mono ?_
      rintro e w' ⟨v, rfl, hown, hb⟩
      exact ⟨v, rfl, ⟨hown.1, by
        rcases hown.2 with h | ⟨g, cap, cur, h1, h2, h3⟩
        · exact .inl h
        · exact .inr ⟨g, cap, cur, h1, by omega, h3⟩⟩, hbw.trans (hb.mono (by omega))⟩
    · refine ⟨by simp, ⟨fun i hi => ⟨w.heap.size + 1, 0, rfl, ?_⟩, fun i hi => ?_⟩⟩
      · match i, hi with
        | 0, _ => exact cells_cell hc2 rfl
        | 1, _ => exact cells_cell hc2 rfl
        | 2, _ => exact cells_cell hc2 rfl
      · match i, hi with
        | 0, _ => exact IntsAt.below hbw HK.out
        | 1, _ => exact ⟨by simp, fun j hj => ⟨w.heap.size, 0, rfl, by
            match j, hj with
            | 0, _ => exact cells_cell hc1 rfl⟩⟩
        | 2, _ => exact IntsAt.below hbw HA.out
    · intro i hi he
      match i, hi, he with
      | 0, _, he => exact HKN.out he
      | 1, _, he => cases he
      | 2, _, he => cases he
    · rw [hflat]; simp; omega
  clear hkn
  go_enter Try.func94, Try.ntmps94
  go_wp2
  go_region_with (refine hcat.out.mono ?_; rintro e w4 ⟨v4, rfl, hown4, hb4⟩; obtain ⟨va, vn, vc, rfl⟩ := ownsRow_slice hown4)
  all_goals
    go_wp2
    go_ret
    exact ⟨_, rfl, hown4, hb4⟩

end Go.Proofs.Ytlpbelhfpoilpaa

