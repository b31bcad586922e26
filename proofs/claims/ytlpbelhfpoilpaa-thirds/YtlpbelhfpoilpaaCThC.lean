import Derived.Test.YtlpbelhfpoilpaaCKeEPuTThB
set_option linter.all false
namespace Go.Proofs.Ytlpbelhfpoilpaa
open Go.RowKit Go.Scout

set_option maxRecDepth 100000 in
set_option maxHeartbeats 8000000 in
theorem thirds_any (lo : Option Addr) (lc : Nat) (l : List Int) (left right value : Int) (less fixed : Bool) (w : World) (hx : IntsAt w lo l) (hl : ∀ x ∈ l, -9223372036854775808 ≤ x ∧ x ≤ 9223372036854775807) (hlo : ∀ a, lo = some a → a.block < w.heap.size)
    (h1 : -9223372036854775808 ≤ left ∧ left ≤ 9223372036854775807) (h2 : -9223372036854775808 ≤ right ∧ right ≤ 9223372036854775807) (h3 : -9223372036854775808 ≤ value ∧ value ≤ 9223372036854775807) :
    Calls Try.prog 4 #[.slice lo l.length lc, .int .i64 left, .int .i64 right, .bool less, .bool fixed, .int .i64 value] w fun e w' => e = .returned (.bool true) ∧ Below w.heap.size w w' := by
  have hm := made_any lo lc l w hx hl hlo
  clear hx hl hlo
  go_enter Try.func4, Try.ntmps4
  go_wp2_with fail
  refine hm.mono ?_
  rintro e w1 ⟨ts, q, db, co, d, cc, dc, rfl, hok, hts, hco, hcc, hls, hdb, hb1⟩
  obtain ⟨htsA, hqA, hdbA, hCg, hb12⟩ := plain_facts w1 ts q db co d cc dc _ hts hls hdb
  have hcat := cat_of_tabs hok.tabs.1 hok.tabs.2.1 hok.tabs.2.2
  have hsrc := hok.qry.src
  have hcol := columns_any co cc ts (plainQ q (w1.heap.size + 1)) (.slice d db.length dc) ⟨_, _, _, rfl⟩ _ htsA hcat hqA.src (by show q.src.xs.length ≤ 5; omega) hsrc.1
  have hwp : 0 < widthN ts q.src.xs := by have := (widthN_pos hcat hsrc.1 hsrc.2.1 (by omega)).1; omega
  obtain ⟨W2, hW2⟩ : ∃ W2, ((w1.alloc (.cells (caseA (.slice co ts.length cc) (plainQ q (w1.heap.size + 1)) (.slice d db.length dc)) 41)).alloc (.cells #[.int .i64 0] 3)) = W2 := ⟨_, rfl⟩
  rw [hW2] at hqA hCg htsA hdbA hcol hb12
  have HW2 : Hid _ := hW2
  have HQA : Hid _ := hqA
  have HCG : Hid _ := hCg
  have HTA : Hid _ := htsA
  have HDA : Hid _ := hdbA
  have HB2 : Hid _ := hb12
  have HOK : Hid _ := hok
  have HLS : Hid _ := hls
  have HB1 : Hid _ := hb1
  clear hm hok hts hco hcc hls hdb hb1 hb12 hqA hCg htsA hdbA hcat hsrc hW2
  have hcol' : Calls Try.prog 12 #[.agg (caseA (.slice co ts.length cc) (plainQ q (w1.heap.size + 1)) (.slice d db.length dc))] W2 fun e w' => e = .returned (.int .i64 (widthN ts q.src.xs)) ∧ Below W2.heap.size W2 w' := hcol
  clear hcol
  have HROW0 : Hid (∀ X, Below W2.heap.size W2 X → Calls Try.prog 14 #[.agg (caseA (.slice co ts.length cc) (plainQ q (w1.heap.size + 1)) (.slice d db.length dc))] X fun e w' => e = .returned (.tuple #[.int .i64 (rowsN (plainQ q (w1.heap.size + 1)) db), .bool true]) ∧ Below X.heap.size X w') := by
    intro X hX
    have h := rows_at W2 ts q db co d cc dc (w1.heap.size + 1) HOK.out HLS.out.src.2.2 HTA.out HQA.out HDA.out X hX q.wad q.wcap [] (by rw [List.append_nil]; exact HQA.out.wh.below hX) (by simp) (fun x hx => by simp at hx)
    rw [List.append_nil] at h
    exact h
  have HROWS : Hid (∀ X, Below W2.heap.size W2 X → ∀ (wad : Option Addr) (wcap : Nat) (x : ClauseV), ClausesAt X wad (q.wh ++ [x]) → ClauseOk (widthN ts q.src.xs) x → Calls Try.prog 14 #[.agg (caseA (.slice co ts.length cc) { plainQ q (w1.heap.size + 1) with wad := wad, wcap := wcap, wh := (plainQ q (w1.heap.size + 1)).wh ++ [x] } (.slice d db.length dc))] X fun e w' => e = .returned (.tuple #[.int .i64 (rowsN { plainQ q (w1.heap.size + 1) with wad := wad, wcap := wcap, wh := (plainQ q (w1.heap.size + 1)).wh ++ [x] } db), .bool true]) ∧ Below X.heap.size X w') :=
    fun X hX wad wcap x hc hx => rows_at W2 ts q db co d cc dc (w1.heap.size + 1) HOK.out HLS.out.src.2.2 HTA.out HQA.out HDA.out X hX wad wcap [x] hc (by simp) (fun y hy => by rw [List.mem_singleton] at hy; rw [hy]; exact hx)
  have HJOIN : Hid (∀ X, Below W2.heap.size W2 X → ∀ (nad : Option Addr) (ncap : Nat) (ncs : List CondD), CondsAt X nad ncs → Calls Try.prog 15 #[.agg (caseA (.slice co ts.length cc) (plainQ q (w1.heap.size + 1)) (.slice d db.length dc)), .slice nad ncs.length ncap] X fun e w' => ∃ (wad : Option Addr) (wcap : Nat), e = .returned (.agg (caseA (.slice co ts.length cc) { plainQ q (w1.heap.size + 1) with wad := wad, wcap := wcap, wh := (plainQ q (w1.heap.size + 1)).wh ++ [⟨nad, ncap, ncs⟩] } (.slice d db.length dc))) ∧ ClausesAt w' wad ((plainQ q (w1.heap.size + 1)).wh ++ [⟨nad, ncap, ncs⟩]) ∧ Below X.heap.size X w') :=
    fun X hX nad ncap ncs hn => joined_any co d ts.length cc db.length dc (plainQ q (w1.heap.size + 1)) nad ncap ncs X (HQA.out.wh.below hX) HLS.out.nil (by have := HOK.out.qry.wh.1; show q.wh.length ≤ 8; omega) hn
  have HCELL : Hid (∀ X, Below W2.heap.size W2 X → GB X w1.heap.size 41 (caseA (.slice co ts.length cc) (plainQ q (w1.heap.size + 1)) (.slice d db.length dc))) := fun X hX => GB.keep HCG.out (Kept.of_below (s := fun _ => True) hX (fun b hb _ => hb)) trivial
  have HBND : Hid (∀ q', q'.src.xs = q.src.xs → rowsN q' db ≤ 20000) := fun q' h => rowsN_le HOK.out (by rw [h]; exact HOK.out.qry.src.2.2)
  generalize hn : widthN ts q.src.xs = n at *
  have HN : Hid _ := hn
  clear hn
  obtain ⟨q0, hq0⟩ : ∃ q0, q = q0 := ⟨_, rfl⟩
  have HQ0 : Hid _ := hq0
  obtain ⟨⟨sad, scap, src⟩, wad, wcap, wh, group, ⟨kad, kcap, kxs⟩, ⟨uad, ucap, uxs⟩, ⟨lad, lcap, lxs⟩, ⟨oad, ocap, oxs⟩⟩ := q
  clear hq0
  have HWE := HW2.out
  unfold plainQ caseA IntsV.val at hcol' HWE
  unfold caseA IntsV.val
  simp only at hcol' HWE
  simp only
  go_wp2_with fail
  simp only [List.length_cons, List.length_nil, Nat.zero_add] at hcol' HWE
  rw [HWE]
  refine hcol'.mono ?_
  rintro e w3 ⟨rfl, hb3⟩
  clear hcol' HWE
  go_wp2_with fail
  refine (pick1_any left n w3 hwp h1).mono ?_
  rintro e w3' ⟨rfl, hw3⟩
  rw [hw3]
  clear hw3 w3'
  go_wp2_with fail
  refine (pick1_any right n w3 hwp h2).mono ?_
  rintro e w3' ⟨rfl, hw3⟩
  rw [hw3]
  clear hw3 w3'
  have hpl := pickI_range (c := left) hwp
  have hpr := pickI_range (c := right) hwp
  have hrv : -1000 ≤ pickI value 2001 - 1000 ∧ pickI value 2001 - 1000 ≤ 1000 := by have := pickI_range (c := value) (n := 2001) (by decide); omega
  have hwr : wrap64 (pickI value 2001 - 1000) = pickI value 2001 - 1000 := by unfold wrap64; omega
  cases less
  case' false =>
    cases fixed
    case' false =>
      go_upto_region 16 with (refine (pick1_any value 2001 _ (by decide) h3).mono ?_; rintro e w3' ⟨rfl, rfl⟩)
      go_cut [15, 16, 17] from 42 (fun s15 s16 s17 wx => ∃ (D N : Nat) (nad : Option Addr) (ncap : Nat) (op pl rr : Int) (fx : Bool), s15 = .pointer (some ⟨D, 0, none⟩) ∧ s16 = .slice nad (nilsD fx pl rr).length ncap ∧ s17 = .pointer (some ⟨N, 0, none⟩) ∧ ThirdsAt 46 w3 wx D N nad op pl rr fx ∧ (op = 0 ∨ op = 1) ∧ (0 ≤ pl ∧ pl < n) ∧ (fx = true → -1000 ≤ rr ∧ rr ≤ 1000) ∧ (fx = false → 0 ≤ rr ∧ rr < n))
      case first =>
        go_wp2_with fail
        go_meet
        exact ⟨_, _, _, _, 0, pickI left n, pickI right n, false, rfl, rfl, rfl, thirds_free w3 0 (pickI left n) (pickI right n) _, .inl rfl, hpl, (fun h => by cases h), fun _ => hpr⟩
    case' true =>
      go_upto_region 16 with (refine (pick1_any value 2001 _ (by decide) h3).mono ?_; rintro e w3' ⟨rfl, rfl⟩)
      go_cut [15, 16, 17] from 42 (fun s15 s16 s17 wx => ∃ (D N : Nat) (nad : Option Addr) (ncap : Nat) (op pl rr : Int) (fx : Bool), s15 = .pointer (some ⟨D, 0, none⟩) ∧ s16 = .slice nad (nilsD fx pl rr).length ncap ∧ s17 = .pointer (some ⟨N, 0, none⟩) ∧ ThirdsAt 46 w3 wx D N nad op pl rr fx ∧ (op = 0 ∨ op = 1) ∧ (0 ≤ pl ∧ pl < n) ∧ (fx = true → -1000 ≤ rr ∧ rr ≤ 1000) ∧ (fx = false → 0 ≤ rr ∧ rr < n))
      case first =>
        go_wp2_with fail
        go_meet
        exact ⟨_, _, _, _, 0, pickI left n, pickI value 2001 - 1000, true, rfl, rfl, rfl, thirds_fixed w3 0 (pickI left n) (pickI value 2001 - 1000), .inl rfl, hpl, fun _ => hrv, (fun h => by cases h)⟩
  case' true =>
    cases fixed
    case' false =>
      go_upto_region 16 with (refine (pick1_any value 2001 _ (by decide) h3).mono ?_; rintro e w3' ⟨rfl, rfl⟩)
      go_cut [15, 16, 17] from 42 (fun s15 s16 s17 wx => ∃ (D N : Nat) (nad : Option Addr) (ncap : Nat) (op pl rr : Int) (fx : Bool), s15 = .pointer (some ⟨D, 0, none⟩) ∧ s16 = .slice nad (nilsD fx pl rr).length ncap ∧ s17 = .pointer (some ⟨N, 0, none⟩) ∧ ThirdsAt 46 w3 wx D N nad op pl rr fx ∧ (op = 0 ∨ op = 1) ∧ (0 ≤ pl ∧ pl < n) ∧ (fx = true → -1000 ≤ rr ∧ rr ≤ 1000) ∧ (fx = false → 0 ≤ rr ∧ rr < n))
      case first =>
        go_wp2_with fail
        go_meet
        exact ⟨_, _, _, _, 1, pickI left n, pickI right n, false, rfl, rfl, rfl, thirds_free w3 1 (pickI left n) (pickI right n) _, .inr rfl, hpl, (fun h => by cases h), fun _ => hpr⟩
    case' true =>
      go_upto_region 16 with (refine (pick1_any value 2001 _ (by decide) h3).mono ?_; rintro e w3' ⟨rfl, rfl⟩)
      go_cut [15, 16, 17] from 42 (fun s15 s16 s17 wx => ∃ (D N : Nat) (nad : Option Addr) (ncap : Nat) (op pl rr : Int) (fx : Bool), s15 = .pointer (some ⟨D, 0, none⟩) ∧ s16 = .slice nad (nilsD fx pl rr).length ncap ∧ s17 = .pointer (some ⟨N, 0, none⟩) ∧ ThirdsAt 46 w3 wx D N nad op pl rr fx ∧ (op = 0 ∨ op = 1) ∧ (0 ≤ pl ∧ pl < n) ∧ (fx = true → -1000 ≤ rr ∧ rr ≤ 1000) ∧ (fx = false → 0 ≤ rr ∧ rr < n))
      case first =>
        go_wp2_with fail
        go_meet
        exact ⟨_, _, _, _, 1, pickI left n, pickI value 2001 - 1000, true, rfl, rfl, rfl, thirds_fixed w3 1 (pickI left n) (pickI value 2001 - 1000), .inr rfl, hpl, fun _ => hrv, (fun h => by cases h)⟩
  all_goals
    obtain ⟨D, N, nad, ncap, op, pl, rr, fx, rfl, rfl, rfl, ⟨hD, hN, hC, hbV⟩, hop, hpl', hfx, hfr⟩ := hcut
    have HBV : Hid (Below W2.heap.size W2 wc) := Below.step hb3 hbV
    have hk0 : ClauseOk n ⟨none, 0, [⟨false, op, pl, fx, rr⟩]⟩ ∧ ClauseOk n ⟨none, 0, [⟨true, op, pl, fx, rr⟩]⟩ ∧ ClauseOk n ⟨none, 0, nilsD fx pl rr⟩ := by
      cases fx
      · have h1 := hfr rfl
        refine ⟨⟨by simp, by simp, fun c hc => ?_⟩, ⟨by simp, by simp, fun c hc => ?_⟩, ⟨by simp [nilsD], by simp [nilsD], fun c hc => ?_⟩⟩
        · rw [List.mem_singleton] at hc; rw [hc]; rcases hop with rfl | rfl <;> simp [condB] <;> omega
        · rw [List.mem_singleton] at hc; rw [hc]; rcases hop with rfl | rfl <;> simp [condB] <;> omega
        · simp [nilsD] at hc; rcases hc with rfl | rfl <;> simp [condB] <;> omega
      · have h1 := hfx rfl
        refine ⟨⟨by simp, by simp, fun c hc => ?_⟩, ⟨by simp, by simp, fun c hc => ?_⟩, ⟨by simp [nilsD], by simp [nilsD], fun c hc => ?_⟩⟩
        · rw [List.mem_singleton] at hc; rw [hc]; rcases hop with rfl | rfl <;> simp [condB] <;> omega
        · rw [List.mem_singleton] at hc; rw [hc]; rcases hop with rfl | rfl <;> simp [condB] <;> omega
        · simp [nilsD] at hc; rcases hc with rfl <;> simp [condB] <;> omega
    have HK0 : Hid _ := hk0
    have HNR : Hid (fx = true → rr ≠ 1073741824) := fun h => by have := hfx h; omega
    have HOP : Hid _ := hop
    have HC : Hid _ := hC
    clear hop hpl' hfx hfr hC hbV hpl hpr hrv hwr h1 h2 h3 hwp hk0
    have CS : Hid (∀ X, Below W2.heap.size W2 X → X.cell? ⟨w1.heap.size, 0, none⟩ = some (.slice co ts.length cc) ∧ X.cell? ⟨w1.heap.size, 1, none⟩ = some (.slice sad src.length scap) ∧ X.cell? ⟨w1.heap.size, 2, none⟩ = some (.slice wad wh.length wcap) ∧ X.cell? ⟨w1.heap.size, 3, none⟩ = some (.bool false) ∧ X.cell? ⟨w1.heap.size, 4, none⟩ = some (.slice none 0 0) ∧ X.cell? ⟨w1.heap.size, 5, none⟩ = some (.slice none 0 0) ∧ X.cell? ⟨w1.heap.size, 6, none⟩ = some (.slice (some ⟨w1.heap.size + 1, 0, none⟩) 1 1) ∧ X.cell? ⟨w1.heap.size, 7, none⟩ = some (.slice none 0 0) ∧ X.cell? ⟨w1.heap.size, 8, none⟩ = some (.slice d db.length dc)) := by
      intro X hX
      have h := HCELL.out X hX
      refine ⟨h.cell 0, h.cell 1, h.cell 2, h.cell 3, h.cell 4, h.cell 5, h.cell 6, h.cell 7, h.cell 8⟩
    have DS : Hid (∀ X, Below wc.heap.size wc X → X.cell? ⟨D, 0, none⟩ = some (.bool false) ∧ X.cell? ⟨D, 1, none⟩ = some (.int .i64 op) ∧ X.cell? ⟨D, 2, none⟩ = some (.int .i64 pl) ∧ X.cell? ⟨D, 3, none⟩ = some (.bool fx) ∧ X.cell? ⟨D, 4, none⟩ = some (.int .i64 rr)) := by
      intro X hX
      have h := hD.keep (Kept.of_below (s := fun _ => True) hX (fun b hb _ => hb)) trivial
      exact ⟨h.cell 0, h.cell 1, h.cell 2, h.cell 3, h.cell 4⟩
    have NS : Hid (∀ X, Below wc.heap.size wc X → X.cell? ⟨N, 0, none⟩ = some (.bool true) ∧ X.cell? ⟨N, 1, none⟩ = some (.int .i64 op) ∧ X.cell? ⟨N, 2, none⟩ = some (.int .i64 pl) ∧ X.cell? ⟨N, 3, none⟩ = some (.bool fx) ∧ X.cell? ⟨N, 4, none⟩ = some (.int .i64 rr)) := by
      intro X hX
      have h := hN.keep (Kept.of_below (s := fun _ => True) hX (fun b hb _ => hb)) trivial
      exact ⟨h.cell 0, h.cell 1, h.cell 2, h.cell 3, h.cell 4⟩
    clear hD hN
    obtain ⟨c0, c1, c2, c3, c4, c5, c6, c7, c8⟩ := CS.out wc HBV.out
    have hr0 := HROW0.out wc HBV.out
    obtain ⟨r0, hr0e⟩ : ∃ r0, rowsN (plainQ ⟨⟨sad, scap, src⟩, wad, wcap, wh, group, ⟨kad, kcap, kxs⟩, ⟨uad, ucap, uxs⟩, ⟨lad, lcap, lxs⟩, ⟨oad, ocap, oxs⟩⟩ (w1.heap.size + 1)) db = r0 := ⟨_, rfl⟩
    rw [hr0e] at hr0
    have HR0 : Hid _ := hr0e
    clear hr0e
    go_wp2_with fail
    refine hr0.mono ?_
    rintro e X1 ⟨rfl, hx1⟩
    clear hr0 c0 c1 c2 c3 c4 c5 c6 c7 c8
    have hbX1 : Below W2.heap.size W2 X1 := Below.step HBV.out hx1
    have hwX1 : Below wc.heap.size wc X1 := hx1
    obtain ⟨c0, c1, c2, c3, c4, c5, c6, c7, c8⟩ := CS.out X1 hbX1
    obtain ⟨d0, d1, d2, d3, d4⟩ := DS.out X1 hwX1
    have hxa := below_alloc X1 (.cells #[.bool false, .int .i64 op, .int .i64 pl, .bool fx, .int .i64 rr] 46)
    have hjn := HJOIN.out (X1.alloc (.cells #[.bool false, .int .i64 op, .int .i64 pl, .bool fx, .int .i64 rr] 46)) (Below.step hbX1 hxa) (some ⟨X1.heap.size, 0, none⟩) 1 [⟨false, op, pl, fx, rr⟩] (conds_one (c := ⟨false, op, pl, fx, rr⟩) (rest := #[]) (heap_alloc_new X1 _))
    have HXA : Hid _ := hxa
    clear hxa
    go_wp2_with fail
    refine hjn.mono ?_
    rintro e X2 ⟨wad1, wcap1, rfl, hcl1, hxX2⟩
    clear hjn c0 c1 c2 c3 c4 c5 c6 c7 c8 d0 d1 d2 d3 d4
    have hbX2 : Below W2.heap.size W2 X2 := Below.step (Below.step hbX1 HXA.out) hxX2
    have hwX2 : Below wc.heap.size wc X2 := Below.step (Below.step hwX1 HXA.out) hxX2
    have hr1 := HROWS.out X2 hbX2 wad1 wcap1 ⟨some ⟨X1.heap.size, 0, none⟩, 1, [⟨false, op, pl, fx, rr⟩]⟩ hcl1 HK0.out.1
    obtain ⟨r1, hr1e⟩ : ∃ r, rowsN { plainQ ⟨⟨sad, scap, src⟩, wad, wcap, wh, group, ⟨kad, kcap, kxs⟩, ⟨uad, ucap, uxs⟩, ⟨lad, lcap, lxs⟩, ⟨oad, ocap, oxs⟩⟩ (w1.heap.size + 1) with wad := wad1, wcap := wcap1, wh := (plainQ ⟨⟨sad, scap, src⟩, wad, wcap, wh, group, ⟨kad, kcap, kxs⟩, ⟨uad, ucap, uxs⟩, ⟨lad, lcap, lxs⟩, ⟨oad, ocap, oxs⟩⟩ (w1.heap.size + 1)).wh ++ [⟨some ⟨X1.heap.size, 0, none⟩, 1, [⟨false, op, pl, fx, rr⟩]⟩] } db = r := ⟨_, rfl⟩
    rw [hr1e] at hr1
    have HR1 : Hid _ := hr1e
    clear hr1e hcl1
    go_wp2_with fail
    refine hr1.mono ?_
    rintro e X3 ⟨rfl, hxX3⟩
    clear hr1
    have hbX3 : Below W2.heap.size W2 X3 := Below.step hbX2 hxX3
    have hwX3 : Below wc.heap.size wc X3 := Below.step hwX2 hxX3
    clear hxX3 hbX2 hwX2 hxX2 HXA
    obtain ⟨c0, c1, c2, c3, c4, c5, c6, c7, c8⟩ := CS.out X3 hbX3
    obtain ⟨d0, d1, d2, d3, d4⟩ := NS.out X3 hwX3
    have hxa := below_alloc X3 (.cells #[.bool true, .int .i64 op, .int .i64 pl, .bool fx, .int .i64 rr] 46)
    have hjn := HJOIN.out (X3.alloc (.cells #[.bool true, .int .i64 op, .int .i64 pl, .bool fx, .int .i64 rr] 46)) (Below.step hbX3 hxa) (some ⟨X3.heap.size, 0, none⟩) 1 [⟨true, op, pl, fx, rr⟩] (conds_one (c := ⟨true, op, pl, fx, rr⟩) (rest := #[]) (heap_alloc_new X3 _))
    have HXA : Hid _ := hxa
    clear hxa
    go_wp2_with fail
    refine hjn.mono ?_
    rintro e X4 ⟨wad2, wcap2, rfl, hcl2, hxX4⟩
    clear hjn c0 c1 c2 c3 c4 c5 c6 c7 c8 d0 d1 d2 d3 d4
    have hbX4 : Below W2.heap.size W2 X4 := Below.step (Below.step hbX3 HXA.out) hxX4
    have hwX4 : Below wc.heap.size wc X4 := Below.step (Below.step hwX3 HXA.out) hxX4
    have hr2 := HROWS.out X4 hbX4 wad2 wcap2 ⟨some ⟨X3.heap.size, 0, none⟩, 1, [⟨true, op, pl, fx, rr⟩]⟩ hcl2 HK0.out.2.1
    obtain ⟨r2, hr2e⟩ : ∃ r, rowsN { plainQ ⟨⟨sad, scap, src⟩, wad, wcap, wh, group, ⟨kad, kcap, kxs⟩, ⟨uad, ucap, uxs⟩, ⟨lad, lcap, lxs⟩, ⟨oad, ocap, oxs⟩⟩ (w1.heap.size + 1) with wad := wad2, wcap := wcap2, wh := (plainQ ⟨⟨sad, scap, src⟩, wad, wcap, wh, group, ⟨kad, kcap, kxs⟩, ⟨uad, ucap, uxs⟩, ⟨lad, lcap, lxs⟩, ⟨oad, ocap, oxs⟩⟩ (w1.heap.size + 1)).wh ++ [⟨some ⟨X3.heap.size, 0, none⟩, 1, [⟨true, op, pl, fx, rr⟩]⟩] } db = r := ⟨_, rfl⟩
    rw [hr2e] at hr2
    have HR2 : Hid _ := hr2e
    clear hr2e hcl2
    go_wp2_with fail
    refine hr2.mono ?_
    rintro e X5 ⟨rfl, hxX5⟩
    clear hr2
    have hbX5 : Below W2.heap.size W2 X5 := Below.step hbX4 hxX5
    have hwX5 : Below wc.heap.size wc X5 := Below.step hwX4 hxX5
    clear hxX5 hbX4 hwX4 hxX4 HXA
    obtain ⟨c0, c1, c2, c3, c4, c5, c6, c7, c8⟩ := CS.out X5 hbX5
    have hjn := HJOIN.out X5 hbX5 nad ncap (nilsD fx pl rr) (CondsAt.below hwX5 HC.out)
    go_wp2_with fail
    refine hjn.mono ?_
    rintro e X6 ⟨wad3, wcap3, rfl, hcl3, hxX6⟩
    clear hjn c0 c1 c2 c3 c4 c5 c6 c7 c8
    have hbX6 : Below W2.heap.size W2 X6 := Below.step hbX5 hxX6
    have hr3 := HROWS.out X6 hbX6 wad3 wcap3 ⟨nad, ncap, nilsD fx pl rr⟩ hcl3 HK0.out.2.2
    obtain ⟨r3, hr3e⟩ : ∃ r, rowsN { plainQ ⟨⟨sad, scap, src⟩, wad, wcap, wh, group, ⟨kad, kcap, kxs⟩, ⟨uad, ucap, uxs⟩, ⟨lad, lcap, lxs⟩, ⟨oad, ocap, oxs⟩⟩ (w1.heap.size + 1) with wad := wad3, wcap := wcap3, wh := (plainQ ⟨⟨sad, scap, src⟩, wad, wcap, wh, group, ⟨kad, kcap, kxs⟩, ⟨uad, ucap, uxs⟩, ⟨lad, lcap, lxs⟩, ⟨oad, ocap, oxs⟩⟩ (w1.heap.size + 1)).wh ++ [⟨nad, ncap, nilsD fx pl rr⟩] } db = r := ⟨_, rfl⟩
    rw [hr3e] at hr3
    have HR3 : Hid _ := hr3e
    clear hr3e hcl3
    go_wp2_with fail
    refine hr3.mono ?_
    rintro e X7 ⟨rfl, hxX7⟩
    clear hr3
    have hbX7 : Below W2.heap.size W2 X7 := Below.step hbX6 hxX7
    clear hxX7 hbX6 hxX6
    have hal := alive_any X7
    go_wp2_with fail
    refine hal.mono ?_
    rintro e X8 ⟨rfl, hx8⟩
    clear hal
    have hcount := thirds_count (plainQ ⟨⟨sad, scap, src⟩, wad, wcap, wh, group, ⟨kad, kcap, kxs⟩, ⟨uad, ucap, uxs⟩, ⟨lad, lcap, lxs⟩, ⟨oad, ocap, oxs⟩⟩ (w1.heap.size + 1)) db wad1 wad2 wad3 wcap1 wcap2 wcap3 ⟨some ⟨X1.heap.size, 0, none⟩, 1, [⟨false, op, pl, fx, rr⟩]⟩ ⟨some ⟨X3.heap.size, 0, none⟩, 1, [⟨true, op, pl, fx, rr⟩]⟩ ⟨nad, ncap, nilsD fx pl rr⟩ op pl rr fx HOP.out HNR.out rfl rfl rfl
    rw [HR1.out, HR2.out, HR3.out, HR0.out] at hcount
    have hb0 := HBND.out (plainQ ⟨⟨sad, scap, src⟩, wad, wcap, wh, group, ⟨kad, kcap, kxs⟩, ⟨uad, ucap, uxs⟩, ⟨lad, lcap, lxs⟩, ⟨oad, ocap, oxs⟩⟩ (w1.heap.size + 1)) rfl
    rw [HR0.out] at hb0
    have hw1 : wrap64 ((r1 : Int) + (r2 : Int)) = (r1 : Int) + (r2 : Int) := by unfold wrap64; omega
    have hw2 : wrap64 ((r1 : Int) + (r2 : Int) + (r3 : Int)) = (r0 : Int) := by unfold wrap64; omega
    have hbF : Below w.heap.size w X8 := HB1.out.trans ((HB2.out.trans ((Below.step hbX7 hx8).mono HB2.out.size)).mono HB1.out.size)
    have HBF : Hid _ := hbF
    clear hbF hcount hb0 hx8 hbX7
    go_wp2
    go_ret
    exact ⟨by simp, HBF.out⟩

end Go.Proofs.Ytlpbelhfpoilpaa

