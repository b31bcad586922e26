import Derived.Deep.RegionHeld3
import Derived.Test.YtlpbelhfpoilpaaGreatCRefDRefERfH
set_option linter.all false
namespace Go.Proofs.YtlpbelhfpoilpaaGreat
open Go.RowKit Go.Scout

set_option maxRecDepth 20000 in
set_option maxHeartbeats 16000000 in
theorem refEvalX_any (co d : Option Addr) (cc dcap : Nat) (ts : List TableD) (q : QueryV) (db : List RowsV) (w : World) (hts : TablesAt w co ts) (hq : q.At w) (hdb : DbAt w d db) (hchk : q.check ts = 0) (hdat : dataB ts q.src.xs db = true) :
    Calls Tryz.prog 8 #[.slice co ts.length cc, .agg q.cells, .slice d db.length dcap] w fun e w' => ∃ (ao : Option Addr) (cap : Nat) (ys : List IntsV), e = .returned (.tuple #[.slice ao ys.length cap, .int .i64 0]) ∧ ys.map IntsV.xs = answerN q db ∧ RowsAt w' ao ys ∧ Below w.heap.size w w' := by
  obtain ⟨p1, p2, p3, p4, p5, p6⟩ := check_parts hchk
  have hf := full_parts p2
  have hdd : (db.length = ts.length ∧ dbB ts db = true) ∧ prodN q.src.xs db ≤ 20000 := by
    have h := hdat
    unfold dataB at h
    simp only [Bool.and_eq_true, decide_eq_true_eq] at h
    exact h
  have hcl := combos_len (src := q.src.xs) hdd.1.2
  have hmany := manyN_combos p4 db
  have hcount : (combosN q.src.xs db).length ≤ 20000 := Nat.le_trans (combos_count q.src.xs db) hdd.2
  have hall : allB q.sel.xs (widthN ts q.src.xs) = true ∧ allB q.keys.xs (widthN ts q.src.xs) = true ∧ allB q.sums.xs (widthN ts q.src.xs) = true ∧ allB q.ord.xs (outN q.group q.keys.xs q.sums.xs q.sel.xs) = true := by
    unfold restB at p6
    simp only [Bool.and_eq_true] at p6
    exact ⟨p6.1.1.1.1.1.1.1, p6.1.1.1.1.1.1.2, p6.1.1.1.1.1.2, p6.1.1.1.1.2⟩
  have hok := combos_ok hdd.1.2 q.src.xs
  have hrow : ∀ t, ∀ r ∈ tabN db t, 1 ≤ r.length ∧ r.length ≤ 100 := fun t r hr => by
    obtain ⟨h1, h2⟩ := tabN_fit hdd.1.2 t r hr
    have := cols_of p1 (i := t.toNat) (by omega)
    omega
  have hlen : ∀ t, (tabN db t).length ≤ 1000000 := fun t => by
    rw [tabN_len]
    have := dbB_len hdd.1.2 t.toNat
    omega
  have hfm : ∀ r ∈ (combosN q.src.xs db).filter (holdsB q.wh), r ∈ combosN q.src.xs db := fun r hr => (List.mem_filter.1 hr).1
  have hfl : ((combosN q.src.xs db).filter (holdsB q.wh)).length ≤ 20000 := Nat.le_trans (List.length_filter_le _ _) hcount
  have hrf : refRows q ((combosN q.src.xs db).filter (holdsB q.wh)) = outRows q ((combosN q.src.xs db).filter (holdsB q.wh)) := refRows_out (by omega) (fun r hr => hok r (hfm r hr))
  have hol := outRows_len q ((combosN q.src.xs db).filter (holdsB q.wh))
  have hb0 := below_alloc w (.cells q.cells 26)
  have hc1 := refCheck_any co cc ts q _ (hts.below hb0) (hq.below hb0)
  rw [hchk] at hc1
  obtain ⟨w0, hw0⟩ : ∃ w0, w.alloc (.cells q.cells 26) = w0 := ⟨_, rfl⟩
  have HX : Hid (w0.cell? ⟨w.heap.size, 0, none⟩ = some q.src.val ∧ w0.cell? ⟨w.heap.size, 1, none⟩ = some (.slice q.wad q.wh.length q.wcap) ∧ w0.cell? ⟨w.heap.size, 2, none⟩ = some (.bool q.group) ∧ w0.cell? ⟨w.heap.size, 3, none⟩ = some q.keys.val ∧ w0.cell? ⟨w.heap.size, 4, none⟩ = some q.sums.val ∧ w0.cell? ⟨w.heap.size, 5, none⟩ = some q.sel.val ∧ w0.cell? ⟨w.heap.size, 6, none⟩ = some q.ord.val) := by
    rw [← hw0]; unfold QueryV.cells; refine ⟨?_, ?_, ?_, ?_, ?_, ?_, ?_⟩ <;> simp
  rw [hw0] at hc1 hb0
  have HCD : Hid (∀ x, Below w.heap.size w x → Calls Tryz.prog 21 #[.slice co ts.length cc, .agg q.cells, .slice d db.length dcap] x fun e w' => e = .returned (.bool true) ∧ Below x.heap.size x w') := fun x hb => by
    have h := isData_any co d cc dcap ts q db x (hts.below hb) (IntsAt.below hb hq.src) (hdb.below hb) p3 hf.1
    rw [hdat] at h
    exact h
  have HCO : Hid (∀ (n : Nat) x, n < (combosN q.src.xs db).length → Below w.heap.size w x → Calls Tryz.prog 22 #[.agg q.cells, .slice d db.length dcap, .int .i64 n] x fun e w' => ∃ iv : IntsV, e = .returned iv.val ∧ iv.xs = (combosN q.src.xs db).getD n [] ∧ (ownEl 3).At iv w' ∧ (∀ b, rowEl.blk iv = some b → x.heap.size ≤ b) ∧ Below x.heap.size x w') := fun n x hn hb =>
    combination_any q d dcap n db x (IntsAt.below hb hq.src) (hdb.below hb) hf.1 (by rw [hdd.1.1]; exact p3) hn (by omega) hrow hlen
  have HKE : Hid (∀ (nums iv : IntsV) x, Below w.heap.size w x → nums.xs = numsTo q.wh.length → nums.At x → iv.xs ∈ combosN q.src.xs db → iv.At x → Calls Tryz.prog 23 #[.agg q.cells, nums.val, iv.val] x fun e w' => e = .returned (.bool (holdsB q.wh iv.xs)) ∧ Below x.heap.size x w') := fun nums iv x hb hn ha hm hi => by
    have h := kept_any q nums.ad iv.ad nums.cap iv.cap nums.xs iv.xs x (hq.wh.below hb) ha hi (by rw [hn]; exact nums_all _) (fun i hi k hk => by rw [hcl _ hm]; exact clause_conds p5 hi hk)
    rw [hn, kept_holds] at h
    unfold IntsV.val
    rw [hn]
    exact h
  have HNU : Hid (∀ x, Calls Tryz.prog 24 #[.int .i64 q.wh.length] x fun e w' => ∃ iv : IntsV, e = .returned iv.val ∧ iv.xs = numsTo q.wh.length ∧ iv.At w' ∧ Below x.heap.size x w') := fun x => numbers_any q.wh.length x (by have := hf.2.1; rw [QueryV.whs, List.length_map] at this; omega)
  have HPI : Hid (q.group = false → ∀ (ao : Option Addr) (cap : Nat) (rs : List IntsV) x, Below w.heap.size w x → RowsOwn 3 x ao rs → rs.map IntsV.xs = (combosN q.src.xs db).filter (holdsB q.wh) → Calls Tryz.prog 26 #[.agg q.cells, .slice ao rs.length cap] x fun e w' => ∃ v ys, e = .returned v ∧ ys.map IntsV.xs = outRows q ((combosN q.src.xs db).filter (holdsB q.wh)) ∧ Listed 23 3 x.heap.size v ys w' ∧ Below x.heap.size x w') := fun hg ao cap rs x hb hr hrs => by
    have hm : ∀ r ∈ rs, r.xs ∈ combosN q.src.xs db := fun r hr' => hfm _ (by rw [← hrs]; exact List.mem_map_of_mem hr')
    have h := picked_any q ao cap rs x (IntsAt.below hb hq.sel) hr.1 (by have := congrArg List.length hrs; rw [List.length_map] at this; omega) hf.2.2.1 (fun r hr' => by rw [hcl _ (hm r hr')]; exact hall.1)
    rw [hrs] at h
    have e : outRows q ((combosN q.src.xs db).filter (holdsB q.wh)) = ((combosN q.src.xs db).filter (holdsB q.wh)).map fun r => pickN r q.sel.xs := by unfold outRows; rw [if_neg (by rw [hg]; simp)]
    rw [e]
    exact h
  have HGR : Hid (q.group = true → ∀ (ao : Option Addr) (cap : Nat) (rs : List IntsV) x, Below w.heap.size w x → RowsOwn 3 x ao rs → rs.map IntsV.xs = (combosN q.src.xs db).filter (holdsB q.wh) → Calls Tryz.prog 25 #[.agg q.cells, .slice ao rs.length cap] x fun e w' => ∃ v ys, e = .returned v ∧ ys.map IntsV.xs = outRows q ((combosN q.src.xs db).filter (holdsB q.wh)) ∧ Listed 23 3 x.heap.size v ys w' ∧ Below x.heap.size x w') := fun hg ao cap rs x hb hr hrs => by
    have hm : ∀ r ∈ rs, r.xs ∈ combosN q.src.xs db := fun r hr' => hfm _ (by rw [← hrs]; exact List.mem_map_of_mem hr')
    have h := groupedR_any q ao cap rs x (IntsAt.below hb hq.keys) (IntsAt.below hb hq.sums) hr (by have := congrArg List.length hrs; rw [List.length_map] at this; omega) hf.2.2.2.1 hf.2.2.2.2.1 (fun r hr' => by rw [hcl _ (hm r hr')]; exact hall.2.1) (fun r hr' => by rw [hcl _ (hm r hr')]; exact hall.2.2.1) (fun r hr' c _ => getD_all (hok _ (hm r hr')) (.inr ⟨by omega, by omega⟩) _)
    rw [hrs] at h
    have e : refRows q ((combosN q.src.xs db).filter (holdsB q.wh)) = refGroups q.keys.xs q.sums.xs ((combosN q.src.xs db).filter (holdsB q.wh)) := by unfold refRows; rw [if_pos hg]
    rw [← e, hrf] at h
    exact h
  have HSR : Hid (∀ (ao : Option Addr) (cap : Nat) (rs : List IntsV) x, Below w.heap.size w x → RowsOwn 3 x ao rs → rs.map IntsV.xs = outRows q ((combosN q.src.xs db).filter (holdsB q.wh)) → Calls Tryz.prog 27 #[.slice ao rs.length cap, q.ord.val] x fun e w' => ∃ v ys, e = .returned v ∧ ys.map IntsV.xs = answerN q db ∧ Listed 23 3 x.heap.size v ys w' ∧ Below x.heap.size x w') := fun ao cap rs x hb hr hrs => by
    have h := sortedR_any ao cap rs q.ord x hr (IntsAt.below hb hq.ord) (by have := congrArg List.length hrs; rw [List.length_map] at this; omega) (fun r hr' => by rw [outRows_lens q ((combosN q.src.xs db).filter (holdsB q.wh)) r.xs (by rw [← hrs]; exact List.mem_map_of_mem hr')]; exact hall.2.2.2)
    rw [hrs] at h
    exact h
  have HOL : Hid ((outRows q ((combosN q.src.xs db).filter (holdsB q.wh))).length ≤ 100000 ∧ (answerN q db).length ≤ 100000) := ⟨by omega, by unfold answerN; rw [sortN_len]; omega⟩
  have HPR : Hid (∀ k, manyN (q.src.xs.take k) db ≤ 312500000) := fun k => Nat.le_trans (manyN_le _ _) (prodN_take_le hdd.1.2 hf.1 k)
  have HDB : Hid (∀ x, Below w.heap.size w x → DbAt x d db) := fun x hb => hdb.below hb
  have HSC : Hid (∀ x, Below w.heap.size w x → IntsAt x q.src.ad q.src.xs) := fun x hb => IntsAt.below hb hq.src
  have HAL : Hid (allB q.src.xs db.length = true) := by show _ = _; rw [hdd.1.1]; exact p3
  have HDL : Hid _ := fun t => dbB_len hdd.1.2 t
  have HMA : Hid (manyN q.src.xs db = (combosN q.src.xs db).length) := hmany
  have hsl := hf.1
  have hwl : q.wh.length ≤ 8 := by have := hf.2.1; rw [QueryV.whs, List.length_map] at this; exact this
  have hl2 := hdb.1
  have HB0 : Hid _ := hb0
  have HW0 : Hid _ := hw0
  clear hb0 hw0 hts hq hdb hchk hdat p1 p2 p3 p4 p5 p6 hf hdd hcl hmany hall hok hrow hlen hfm hfl hrf hol
  obtain ⟨rows, hrows⟩ : ∃ rows, rows = combosN q.src.xs db := ⟨_, rfl⟩
  rw [← hrows] at HCO HKE HPI HGR HSR HOL hcount HMA
  clear hrows
  generalize outRows q (rows.filter (holdsB q.wh)) = outR at *
  generalize answerN q db = ans at *
  obtain ⟨hold, hhold⟩ : ∃ hold, hold = holdsB q.wh := ⟨_, rfl⟩
  rw [← hhold] at HKE HPI HGR
  clear hhold
  obtain ⟨⟨sad, scap, src⟩, wad, wcap, wh, group, keys, sums, ⟨lad, lcap, lxs⟩, ⟨oad, ocap, oxs⟩⟩ := q
  unfold QueryV.cells IntsV.val at *
  simp only at *
  obtain ⟨c0, c1, c2, c3, c4, c5, c6⟩ := HX.out
  go_enter Tryz.func8, Tryz.ntmps8
  go_wp2_with fail
  rw [HW0.out]
  refine hc1.mono ?_
  rintro e w1 ⟨rfl, hb1⟩
  have hbw1 : Below w.heap.size w w1 := HB0.out.trans (hb1.mono HB0.out.size)
  have d0 := cell_below hb1 c0
  have d1 := cell_below hb1 c1
  have d2 := cell_below hb1 c2
  have d3 := cell_below hb1 c3
  have d4 := cell_below hb1 c4
  have d5 := cell_below hb1 c5
  have d6 := cell_below hb1 c6
  have hcd := HCD.out w1 hbw1
  clear hc1 c0 c1 c2 c3 c4 c5 c6 HX
  go_wp2_with fail
  refine Calls.mono hcd ?_
  rintro e w2 ⟨rfl, hb2⟩
  have hbw2 : Below w.heap.size w w2 := hbw1.trans (hb2.mono hbw1.size)
  have HD : Hid (w2.cell? ⟨w.heap.size, 0, none⟩ = some (.slice sad src.length scap) ∧ w2.cell? ⟨w.heap.size, 1, none⟩ = some (.slice wad wh.length wcap) ∧ w2.cell? ⟨w.heap.size, 2, none⟩ = some (.bool group) ∧ w2.cell? ⟨w.heap.size, 3, none⟩ = some (.slice keys.ad keys.xs.length keys.cap) ∧ w2.cell? ⟨w.heap.size, 4, none⟩ = some (.slice sums.ad sums.xs.length sums.cap) ∧ w2.cell? ⟨w.heap.size, 5, none⟩ = some (.slice lad lxs.length lcap) ∧ w2.cell? ⟨w.heap.size, 6, none⟩ = some (.slice oad oxs.length ocap)) :=
    ⟨cell_below hb2 d0, cell_below hb2 d1, cell_below hb2 d2, cell_below hb2 d3, cell_below hb2 d4, cell_below hb2 d5, cell_below hb2 d6⟩
  have HBW2 : Hid _ := hbw2
  clear hcd d0 d1 d2 d3 d4 d5 d6 hb1 hb2 hbw1 hbw2
  have h0 := HD.out.1
  go_wp2
  clear h0
  go_loopw [10, 11] (fun mv sv wr => ∃ k : Nat, k ≤ src.length ∧ sv = .int .i64 k ∧ mv = .int .i64 (manyN (src.take k) db : Nat) ∧ Below w2.heap.size w2 wr) (fun _ sv _ => src.length - (intOf sv).toNat)
  case atStart => exact ⟨0, Nat.zero_le _, rfl, rfl, Below.refl _ _⟩
  case round =>
    obtain ⟨k, hk, rfl, rfl, hbr⟩ := hrel
    have h0 := cell_below hbr HD.out.1
    by_cases hlt : k < src.length
    · have hr := allB_at HAL.out hlt
      obtain ⟨b1, o1, rfl, hc1⟩ := IntsAt.get (HSC.out _ (Below.step HBW2.out hbr)) hlt
      have hck := hc1 k hlt
      have hj : src[k].toNat < db.length := by omega
      obtain ⟨b2, o2, rfl, hc2⟩ := CellsAt.get (HDB.out _ (Below.step HBW2.out hbr)).2.1 hj
      have hcl := hc2 _ hj
      have e2 : src.getD k 0 = src[k] := by simp [List.getD, hlt]
      rw [e2] at hck
      have hps := manyN_succ (db := db) hlt
      have hp1 := HPR.out (k + 1)
      have hp0 := HPR.out k
      rw [hps] at hp1
      have hlen := HDL.out src[k].toNat
      have HPS : Hid _ := hps
      clear hps hc1 hc2 e2
      generalize manyN (src.take k) db = P at *
      generalize db.getD src[k].toNat rz = y at *
      obtain ⟨yad, ycap, ys⟩ := y
      unfold RowsV.val at *
      simp only at *
      generalize src[k] = s1 at *
      obtain ⟨cm, rfl⟩ : ∃ cm : Nat, s1 = (cm : Int) := ⟨s1.toNat, by omega⟩
      simp only [Int.toNat_natCast] at hj hcl
      have hwm : wrap64 ((P : Int) * (ys.length : Int)) = ((P * ys.length : Nat) : Int) := by
        have e : (P : Int) * (ys.length : Int) = ((P * ys.length : Nat) : Int) := by simp
        rw [e]
        unfold wrap64
        omega
      clear hp0
      go_wp2
      go_roundw
      case rel => exact ⟨k + 1, by omega, by go_num, by rw [HPS.out]; first | rfl | (rw [hwm]) | simp, hbr⟩
      case measure => simp [intOf]; omega
    · have hkk : src.take k = src := List.take_of_length_le (by omega)
      rw [hkk, HMA.out]
      have HBK : Hid _ := Below.step HBW2.out hbr
      have HBK2 : Hid _ := hbr
      obtain ⟨wk, hwk⟩ : ∃ wk, wk = wr := ⟨_, rfl⟩
      rw [← hwk] at HBK HBK2
      go_wp2
      rw [← hwk]
      clear hwk hbr hkk h0
      go_loopw [12, 13] (fun v nv wr => ∃ (n : Nat) (ys : List IntsV), n ≤ rows.length ∧ nv = .int .i64 n ∧ Hid (ys.map IntsV.xs = (rows.take n).filter hold) ∧ Hid (Listed 23 3 wk.heap.size v ys wr) ∧ Below wk.heap.size wk wr) (fun _ nv _ => rows.length - (intOf nv).toNat)
      case atStart => exact ⟨0, [], Nat.zero_le _, rfl, rfl, Listed.nil _ _ _ _, Below.refl _ _⟩
      case round =>
        obtain ⟨n, ys, hn, rfl, HY, HL, hbr⟩ := hrel
        have hbw := Below.step HBK.out hbr
        have hb2r := Below.step HBK2.out hbr
        have hyl : ys.length ≤ 20000 := by
          have h1 := congrArg List.length HY.out
          have h2 := List.length_filter_le hold (rows.take n)
          rw [List.length_map] at h1
          rw [List.length_take] at h2
          omega
        obtain ⟨f0, f1, f2, f3, f4, f5, f6⟩ := HD.out
        replace f0 := cell_below hb2r f0
        replace f1 := cell_below hb2r f1
        replace f2 := cell_below hb2r f2
        replace f3 := cell_below hb2r f3
        replace f4 := cell_below hb2r f4
        replace f5 := cell_below hb2r f5
        replace f6 := cell_below hb2r f6
        by_cases hlt : n < rows.length
        · have hco := HCO.out n wr hlt hbw
          obtain ⟨oa, om, oc, rfl⟩ := ownsRow_slice HL.out.own
          have hts : rows.take n ++ [rows.getD n []] = rows.take (n + 1) := take_snoc rows [] hlt
          have hmem : rows.getD n [] ∈ rows := getD_memR hlt
          have hyt : ys.map IntsV.xs ++ (if hold (rows.getD n []) = true then [rows.getD n []] else []) = (rows.take (n + 1)).filter hold := by
            rw [HY.out, ← hts, List.filter_append]
            congr 1
            generalize rows.getD n [] = z
            by_cases h : hold z = true
            · rw [if_pos h, List.filter_cons_of_pos h]; rfl
            · rw [if_neg h, List.filter_cons_of_neg h]; rfl
          have HYT : Hid _ := hyt
          have HME : Hid _ := hmem
          clear hts hyt hmem
          go_wp2_with fail
          refine Calls.mono hco ?_
          rintro e w3 ⟨⟨iad, icap, ixs⟩, rfl, hix, hio, -, hb3⟩
          simp only at hix
          rw [← hix] at HYT HME
          clear hix hco
          have e0 := cell_below hb3 f0
          have e1 := cell_below hb3 f1
          have e2 := cell_below hb3 f2
          have e3 := cell_below hb3 f3
          have e4 := cell_below hb3 f4
          have e5 := cell_below hb3 f5
          have e6 := cell_below hb3 f6
          have HBW3 : Hid (Below w.heap.size w w3.drew) := (Below.step hbw hb3).drew
          have HBK3 : Hid (Below wk.heap.size wk w3.drew) := (Below.step hbr hb3).drew
          have HL3 : Hid (Listed 23 3 wk.heap.size (.slice oa om oc) ys w3.drew) := HL.out.below hb3.drew
          have HIO : Hid _ := hio
          have HIA : Hid (IntsAt w3.drew iad ixs) := hio.1.1
          clear f0 f1 f2 f3 f4 f5 f6 hbr hb2r HL hio
          have hnu := HNU.out w3.drew
          go_wp2
          refine wp_region_held_drew (S := fun x => Below w3.heap.size w3 x) (by kernel_rfl) ((Below.refl _ _).drew) (fun hS => ?_)
          refine wpAnyH_take (i := 0) (v := .agg #[.slice sad src.length scap, .slice wad wh.length wcap, .bool group, .slice keys.ad keys.xs.length keys.cap, .slice sums.ad sums.xs.length sums.cap, .slice lad lxs.length lcap, .slice oad oxs.length ocap]) rfl (by kernel_rfl) (by kernel_rfl) (by kernel_rfl) (fun _ _ _ h => h) (.inl ⟨by rfl, fun x hx => ?_⟩) hS ?_
          · have q0 := cell_below hx e0
            have q1 := cell_below hx e1
            have q2 := cell_below hx e2
            have q3 := cell_below hx e3
            have q4 := cell_below hx e4
            have q5 := cell_below hx e5
            have q6 := cell_below hx e6
            go_simp
          refine wpAnyH_take (i := 1) (v := .pointer (some ⟨w.heap.size, 1, none⟩)) rfl (by kernel_rfl) (by kernel_rfl) (by kernel_rfl) (fun _ _ _ h => h) (.inl ⟨by rfl, fun x hx => ?_⟩) hS ?_
          · go_simp
          refine wpAnyH_take (i := 2) (v := .slice wad wh.length wcap) rfl (by kernel_rfl) (by kernel_rfl) (by kernel_rfl) (fun _ _ _ h => h) (.inl ⟨by rfl, fun x hx => ?_⟩) hS ?_
          · have q1 := cell_below hx e1
            go_simp
          refine wpAnyH_take (i := 3) (v := .int .i64 wh.length) rfl (by kernel_rfl) (by kernel_rfl) (by kernel_rfl) (fun _ _ _ h => h) (.inl ⟨by rfl, fun x hx => ?_⟩) hS ?_
          · go_simp
          refine wpAnyH_take (i := 5) (v := .slice iad ixs.length icap) rfl (by kernel_rfl) (by kernel_rfl) (by kernel_rfl) (fun _ _ _ h => h) (.inl ⟨by rfl, fun x hx => ?_⟩) hS ?_
          · go_simp
          refine wpAnyH_ready (rs := [4]) (by kernel_rfl) (by simp) ?_
          refine AllReadyH.cons rfl (fun K hK => ?_) AllReadyH.nil
          go_simp
          refine hnu.mono ?_
          rintro e w4 ⟨⟨nad, ncap, nxs⟩, rfl, hnx, hna, hb4⟩
          have hke := HKE.out (IntsV.mk nad ncap nxs) (IntsV.mk iad icap ixs) w4 (Below.step HBW3.out hb4) hnx hna HME.out (IntsAt.below hb4 HIA.out)
          simp only at hke
          refine hK.out _ _ (hS.trans hb4) (fun hS4 => ?_)
          clear hK K hnu hS
          refine wpAnyH_ready (rs := [6]) (by kernel_rfl) (by simp) ?_
          refine AllReadyH.cons rfl (fun K hK => ?_) AllReadyH.nil
          go_simp
          refine Calls.mono hke ?_
          rintro e w5 ⟨rfl, hb5⟩
          refine hK.out _ _ (hS4.trans (hb5.mono hS4.size)) (fun hS => ?_)
          clear hK K hke
          refine wpAnyH_take (i := 7) (v := .bool (hold ixs)) rfl (by kernel_rfl) (by kernel_rfl) (by kernel_rfl) (fun _ _ _ h => h) (.inl ⟨by rfl, fun x hx => ?_⟩) hS ?_
          · go_simp
          refine wpAnyH_done (by kernel_rfl) ?_ _
          simp only [Act.put, List.setIfInBounds_toArray, List.set_cons_succ, List.set_cons_zero]
          all_goals
            have hb45 := Below.step hb4 hb5
            have hbk5 := Below.step HBK3.out hb45
            have hL5 := HL3.out.below hb45
            have hio5 := (ownEl 3).keep HIO.out hb45.size (fun b hb' _ => hb45.block b hb')
            have hsz5 := hbk5.size
            clear e0 e1 e2 e3 e4 e5 e6 hna hnx hb4 hb5 hS hS4
            cases hho : hold ixs with
            | true =>
              obtain ⟨v', w6, hr6, hL6, hk6, ⟨va, vm, vc, rfl⟩, -⟩ := push_row w5 wk.heap.size (.slice oa om oc) ys hL5 (by omega) hsz5 (IntsV.mk iad icap ixs) hio5 29
              have hb6 : Below wk.heap.size wk w6 := hbk5.trans (hk6.below hsz5 (fun b hb e => by have := (ownsRow_lt hL5.own e).1; omega))
              have HY6 : Hid ((ys ++ [IntsV.mk iad icap ixs]).map IntsV.xs = (rows.take (n + 1)).filter hold) := show _ = _ by rw [← HYT.out, if_pos hho, List.map_append]; rfl
              have HL6 : Hid _ := hL6
              have HB6 : Hid _ := hb6
              clear hL6 hb6 hk6 hL5 hio5 hsz5 hbk5 hb45
              unfold IntsV.val at hr6
              simp only at hr6
              go_wp2_with (first | (at_builtin; refine wpList_append_run rfl (.tmp 63) (.tmp 65) 29 rfl (.slice oa om oc) (.slice (some ⟨w5.heap.size, 0, none⟩) 1 1) (.slice va vm vc) w6 rfl rfl hr6 ?_))
              clear hr6
              go_wp2
              go_roundw
              case rel => exact ⟨n + 1, ys ++ [IntsV.mk iad icap ixs], by omega, by go_num, HY6.out, HL6.out, HB6.out⟩
              case measure => simp [intOf]; omega
            | false =>
              have HY6 : Hid (ys.map IntsV.xs = (rows.take (n + 1)).filter hold) := show _ = _ by rw [← HYT.out, if_neg (by rw [hho]; simp), List.append_nil]
              have HL6 : Hid _ := hL5
              have HB6 : Hid _ := hbk5
              clear hL5 hio5 hsz5 hbk5 hb45
              go_wp2
              go_roundw
              case rel => exact ⟨n + 1, ys, by omega, by go_num, HY6.out, HL6.out, HB6.out⟩
              case measure => simp [intOf]; omega
        · have hnn : rows.take n = rows := List.take_of_length_le (by omega)
          have HYF : Hid (ys.map IntsV.xs = rows.filter hold) := show _ = _ by rw [HY.out, hnn]
          obtain ⟨ao6, cap6, hv6, hro⟩ := HL.out.rowsOwn (by omega)
          subst hv6
          have HRO : Hid _ := hro
          clear hnn hro HL HY
          cases group with
          | true =>
            have hro := HRO.out
            have hcon := HGR.out rfl ao6 cap6 ys wr hbw hro HYF.out
            clear hro
            go_wp2_with fail
            refine Calls.mono hcon ?_
            rintro e w3 ⟨v3, zs, rfl, hzs, hL3, hb3⟩
            have hbw3 := Below.step hbw hb3
            obtain ⟨ao3, cap3, rfl, hro3⟩ := hL3.rowsOwn (by have := congrArg List.length hzs; rw [List.length_map] at this; have := HOL.out.1; omega)
            have hsr := HSR.out ao3 cap3 zs w3 hbw3 hro3 hzs
            have g6 := cell_below hb3 f6
            clear hcon hL3 hro3 f0 f1 f2 f3 f4 f5 f6
            go_wp2_with fail
            refine Calls.mono hsr ?_
            rintro e w4 ⟨v4, us, rfl, hus, hL4, hb4⟩
            obtain ⟨ao4, cap4, rfl, hro4⟩ := hL4.rowsOwn (by have := congrArg List.length hus; rw [List.length_map] at this; have := HOL.out.2; omega)
            have HFI : Hid (us.map IntsV.xs = ans ∧ RowsAt w4 ao4 us ∧ Below w.heap.size w w4) := ⟨hus, hro4.1, Below.step hbw3 hb4⟩
            clear hsr hL4 hro4 g6
            go_wp2
            go_ret2
            exact ⟨ao4, cap4, us, rfl, HFI.out.1, HFI.out.2.1, HFI.out.2.2⟩
          | false =>
            have hro := HRO.out
            have hcon := HPI.out rfl ao6 cap6 ys wr hbw hro HYF.out
            clear hro
            go_wp2_with fail
            refine Calls.mono hcon ?_
            rintro e w3 ⟨v3, zs, rfl, hzs, hL3, hb3⟩
            have hbw3 := Below.step hbw hb3
            obtain ⟨ao3, cap3, rfl, hro3⟩ := hL3.rowsOwn (by have := congrArg List.length hzs; rw [List.length_map] at this; have := HOL.out.1; omega)
            have hsr := HSR.out ao3 cap3 zs w3 hbw3 hro3 hzs
            have g6 := cell_below hb3 f6
            clear hcon hL3 hro3 f0 f1 f2 f3 f4 f5 f6
            go_wp2_with fail
            refine Calls.mono hsr ?_
            rintro e w4 ⟨v4, us, rfl, hus, hL4, hb4⟩
            obtain ⟨ao4, cap4, rfl, hro4⟩ := hL4.rowsOwn (by have := congrArg List.length hus; rw [List.length_map] at this; have := HOL.out.2; omega)
            have HFI : Hid (us.map IntsV.xs = ans ∧ RowsAt w4 ao4 us ∧ Below w.heap.size w w4) := ⟨hus, hro4.1, Below.step hbw3 hb4⟩
            clear hsr hL4 hro4 g6
            go_wp2
            go_ret2
            exact ⟨ao4, cap4, us, rfl, HFI.out.1, HFI.out.2.1, HFI.out.2.2⟩

end Go.Proofs.YtlpbelhfpoilpaaGreat

