import Derived.Test.YtlpbelhfpoilpaaCMkA
import Derived.Test.YtlpbelhfpoilpaaCTruA
set_option linter.all false
namespace Go.Scout
open Go.RowKit

theorem truthN_not (c : CondD) (xs : List Int) : truthN c xs = if c.not then -(truthV c.op (xs.getD c.left.toNat 0) (if c.op = 2 ∨ c.const = true then c.right else xs.getD c.right.toNat 0)) else truthV c.op (xs.getD c.left.toNat 0) (if c.op = 2 ∨ c.const = true then c.right else xs.getD c.right.toNat 0) := rfl

theorem holdsB_bad {ls : List ClauseV} {xs : List Int} {k : Nat} (hk : k < ls.length) (h : someB (ls.getD k lz).cs xs = false) : false = holdsB ls xs := by
  symm
  unfold holdsB
  rw [List.all_eq_false]
  exact ⟨ls[k], List.getElem_mem hk, by have e : ls.getD k lz = ls[k] := by simp [List.getD, hk]
                                        rw [e] at h; rw [h]; simp⟩
theorem holdsB_step {ls : List ClauseV} {xs : List Int} {k : Nat} (hk : k < ls.length) (hp : holdsB (ls.take k) xs = true) (h : someB (ls.getD k lz).cs xs = true) : holdsB (ls.take (k + 1)) xs = true := by
  unfold holdsB at *
  have e : ls.getD k lz = ls[k] := by simp [List.getD, hk]
  rw [e] at h
  rw [List.take_succ_eq_append_getElem hk, List.all_append, hp, List.all_cons, List.all_nil, h]
  rfl

end Go.Scout
namespace Go.Proofs.Ytlpbelhfpoilpaa
open Go.RowKit Go.Scout

set_option maxRecDepth 20000 in
set_option maxHeartbeats 8000000 in
theorem condTruth_any (c : CondD) (ao : Option Addr) (cap : Nat) (xs : List Int) (w : World) (hx : IntsAt w ao xs) (hop : c.op = 0 ∨ c.op = 1 ∨ c.op = 2) (hl : 0 ≤ c.left ∧ c.left < xs.length) (hr : c.op = 2 ∨ c.const = true ∨ (0 ≤ c.right ∧ c.right < xs.length)) :
    Calls Try.prog 87 #[c.val, .slice ao xs.length cap] w fun e w' => e = .returned (.int .i64 (truthN c xs + 1)) ∧ Below w.heap.size w w' := by
  have hb0 := below_alloc w (.cells #[.bool c.not, .int .i64 c.op, .int .i64 c.left, .bool c.const, .int .i64 c.right] 46)
  have hcon := plainTruth_any c ao cap xs _ (IntsAt.below hb0 hx) hop hl hr
  rw [truthN_not]
  have hrg := truthV_range c.op (xs.getD c.left.toNat 0) (if c.op = 2 ∨ c.const = true then c.right else xs.getD c.right.toNat 0)
  generalize truthV c.op (xs.getD c.left.toNat 0) (if c.op = 2 ∨ c.const = true then c.right else xs.getD c.right.toNat 0) = T at *
  obtain ⟨nt, op, left, const, right⟩ := c
  unfold CondD.val at *
  simp only at *
  clear hop hl hr hx
  have hc0 : (w.alloc (.cells #[.bool nt, .int .i64 op, .int .i64 left, .bool const, .int .i64 right] 46)).cell? ⟨w.heap.size, 0, none⟩ = some (.bool nt) := by simp
  have H0 : Hid _ := hb0
  clear hb0
  rcases hrg with rfl | rfl | rfl <;> cases nt
  all_goals
    go_enter Try.func87, Try.ntmps87
    go_wp2_with fail
    refine hcon.mono ?_
    rintro e w2 ⟨rfl, hb2⟩
    have hc2 := cell_below hb2 hc0
    go_wp2
    go_ret
    exact ⟨rfl, H0.out.trans (hb2.mono (by simp))⟩

set_option maxRecDepth 20000 in
set_option maxHeartbeats 8000000 in
theorem clauseTruth_any (c : ClauseV) (ao : Option Addr) (cap : Nat) (xs : List Int) (w : World) (hx : IntsAt w ao xs) (hc : CondsAt w c.ad c.cs) (hcs : ∀ k, k < c.cs.length → condB (c.cs.getD k cz) xs.length = true) :
    Calls Try.prog 72 #[.agg #[c.val], .slice ao xs.length cap] w fun e w' => e = .returned (.int .i64 (clauseN c.cs xs)) ∧ Below w.heap.size w w' := by
  obtain ⟨ad, ccap, cs⟩ := c
  unfold ClauseV.val
  simp only at hc hcs
  simp only
  have hb0 := below_alloc w (.cells #[.slice ad cs.length ccap] 68)
  have HB : Hid _ := hb0
  have hlc := hc.1
  have HC : Hid _ := hc
  have HX : Hid _ := hx
  have HCS : Hid _ := hcs
  clear hx hc hcs hb0
  go_enter Try.func72, Try.ntmps72
  go_wp2
  go_loopw [5, 11] (fun m i wr => ∃ k : Nat, k ≤ cs.length ∧ i = .int .i64 k ∧ m = .int .i64 (clauseN (cs.take k) xs) ∧ Below w.heap.size w wr) (fun _ i _ => cs.length - (intOf i).toNat)
  case atStart => exact ⟨0, Nat.zero_le _, rfl, rfl, HB.out⟩
  case round =>
    obtain ⟨k, hk, rfl, rfl, hbr⟩ := hrel
    by_cases hlt : k < cs.length
    · obtain ⟨b4, o4, rfl, e0, e1, e2, e3, e4⟩ := HC.out.2 k hlt
      have d0 := cell_below hbr e0
      have d1 := cell_below hbr e1
      have d2 := cell_below hbr e2
      have d3 := cell_below hbr e3
      have d4 := cell_below hbr e4
      obtain ⟨p1, p2, p3⟩ := condB_parts (HCS.out k hlt)
      have HS : Hid _ := clauseN_succ (xs := xs) hlt
      have hr1 := clauseN_range (cs.take k) xs
      have hr2 := truthN_range (cs.getD k cz) xs
      have hsz := hbr.size
      generalize cs.getD k cz = cc at *
      have hba := below_alloc wr (.cells #[.bool cc.not, .int .i64 cc.op, .int .i64 cc.left, .bool cc.const, .int .i64 cc.right] 46)
      have hcon := condTruth_any cc ao cap xs _ (IntsAt.below hba (IntsAt.below hbr HX.out)) p1 p2 p3
      generalize truthN cc xs = T at *
      generalize clauseN (cs.take k) xs = M at *
      have HBA : Hid _ := hba
      obtain ⟨nt, op, left, const, right⟩ := cc
      unfold CondD.val at hcon
      simp only at *
      clear e0 e1 e2 e3 e4 p1 p2 p3 hba
      have hmx : max M (T + 1) = if M < T + 1 then T + 1 else M := by omega
      go_wp2_with fail
      refine hcon.mono ?_
      rintro e w2 ⟨rfl, hb2⟩
      have hb3 : Below w.heap.size w w2 := hbr.trans ((HBA.out.trans (hb2.mono (by simp))).mono hsz)
      have HB3 : Hid _ := hb3
      clear hb3 hb2 hcon hbr d0 d1 d2 d3 d4
      go_wp2
      go_roundw
      case rel => exact ⟨k + 1, by omega, by go_num, by rw [HS.out, hmx], HB3.out⟩
      case measure => simp [intOf]; omega
    · have hkk : k = cs.length := by omega
      subst hkk
      rw [List.take_length]
      go_wp2
      go_ret
      exact ⟨rfl, hbr⟩

set_option maxRecDepth 20000 in
set_option maxHeartbeats 8000000 in
theorem holds_any (wad : Option Addr) (wcap : Nat) (wh : List ClauseV) (ao : Option Addr) (cap : Nat) (xs : List Int) (w : World) (hx : IntsAt w ao xs) (hq : ClausesAt w wad wh)
    (hcs : ∀ i, i < wh.length → ∀ k, k < (wh.getD i lz).cs.length → condB ((wh.getD i lz).cs.getD k cz) xs.length = true) :
    Calls Try.prog 54 #[.slice wad wh.length wcap, .slice ao xs.length cap] w fun e w' => e = .returned (.bool (holdsB wh xs)) ∧ Below w.heap.size w w' := by
  have hlw := hq.1
  have HQ : Hid _ := hq
  have HX : Hid _ := hx
  have HCS : Hid _ := hcs
  clear hx hq hcs
  go_enter Try.func54, Try.ntmps54
  go_wp2
  go_loopw [9] (fun i wr => ∃ k : Nat, k ≤ wh.length ∧ i = .int .i64 k ∧ Hid (holdsB (wh.take k) xs = true) ∧ Below w.heap.size w wr) (fun i _ => wh.length - (intOf i).toNat)
  case atStart => exact ⟨0, Nat.zero_le _, rfl, rfl, Below.refl _ _⟩
  case round =>
    obtain ⟨k, hk, rfl, HP, hbr⟩ := hrel
    by_cases hlt : k < wh.length
    · obtain ⟨b2, o2, rfl, hc2⟩ := HQ.out.2.1.get hlt
      have hcl := cell_below hbr (hc2 _ hlt)
      have hcd := HQ.out.2.2 k hlt
      have hcb := HCS.out k hlt
      have HBD : Hid (someB (wh.getD k lz).cs xs = false → false = holdsB wh xs) := fun h => holdsB_bad hlt h
      have HGD : Hid (someB (wh.getD k lz).cs xs = true → holdsB (wh.take (k + 1)) xs = true) := fun h => holdsB_step hlt HP.out h
      have hsz := hbr.size
      generalize wh.getD k lz = cl at *
      have hba := below_alloc wr (.cells #[cl.val] 68)
      have hbb : Below w.heap.size w (wr.alloc (.cells #[cl.val] 68)) := hbr.trans (hba.mono hsz)
      have hcon := clauseTruth_any cl ao cap xs _ (IntsAt.below hbb HX.out) (hcd.below hbb) hcb
      have hct := clauseN_true cl.cs xs
      have hrg := clauseN_range cl.cs xs
      have HBB : Hid _ := hbb
      obtain ⟨ad, cp, cs⟩ := cl
      unfold ClauseV.val at *
      simp only at *
      generalize clauseN cs xs = M at *
      clear hc2 hcd hcb hba hbb
      by_cases h2 : M = 2
      · have hs : someB cs xs = true := by rw [← hct, h2]; rfl
        subst h2
        go_wp2_with fail
        refine hcon.mono ?_
        rintro e w2 ⟨rfl, hb2⟩
        have HB3 : Hid (Below w.heap.size w w2) := HBB.out.trans (hb2.mono (by simp; omega))
        clear hb2 hcon hbr hcl
        go_wp2
        go_roundw
        case rel => exact ⟨k + 1, by omega, by go_num, HGD.out hs, HB3.out⟩
        case measure => simp [intOf]; omega
      · have hs : someB cs xs = false := by rw [← hct]; simp [h2]
        have hne : (M != 2) = true := by simpa using h2
        go_wp2_with fail
        refine hcon.mono ?_
        rintro e w2 ⟨rfl, hb2⟩
        have HB3 : Hid (Below w.heap.size w w2) := HBB.out.trans (hb2.mono (by simp; omega))
        clear hb2 hcon hbr hcl
        go_wp2
        go_ret
        exact ⟨ret_bool (HBD.out hs), HB3.out⟩
    · have hkk : k = wh.length := by omega
      subst hkk
      rw [List.take_length] at HP
      have HPP : Hid (true = holdsB wh xs) := HP.out.symm
      clear HP
      go_wp2
      go_ret
      exact ⟨ret_bool HPP.out, hbr⟩

set_option maxRecDepth 20000 in
set_option maxHeartbeats 8000000 in
/-- The closure that Filter is handed. -/
theorem keep_any (q : QueryV) (bq : Nat) (ao : Option Addr) (cap : Nat) (xs : List Int) (w : World) (hc : w.cell? ⟨bq, 1, none⟩ = some (.slice q.wad q.wh.length q.wcap)) (hx : IntsAt w ao xs) (hq : ClausesAt w q.wad q.wh)
    (hcs : ∀ i, i < q.wh.length → ∀ k, k < (q.wh.getD i lz).cs.length → condB ((q.wh.getD i lz).cs.getD k cz) xs.length = true) :
    Calls Try.prog 53 #[.slice ao xs.length cap, .pointer (some ⟨bq, 0, none⟩)] w fun e w' => e = .returned (.bool (holdsB q.wh xs)) ∧ Below w.heap.size w w' := by
  have hcon := holds_any q.wad q.wcap q.wh ao cap xs w hx hq hcs
  go_enter Try.func53, Try.ntmps53
  go_wp2_with fail
  refine hcon.mono ?_
  rintro e w2 ⟨rfl, hb2⟩
  go_wp2
  go_ret
  exact ⟨rfl, hb2⟩

end Go.Proofs.Ytlpbelhfpoilpaa

namespace Go.Scout
open Go.RowKit

theorem tabN_len (db : List RowsV) (t : Int) : (tabN db t).length = (db.getD t.toNat rz).rs.length := by simp [tabN]

theorem combosN_le {src : List Int} {db : List RowsV} (hrow : ∀ t, ∀ r ∈ tabN db t, r.length ≤ 100) (hl : src.length ≤ 5) : ∀ a ∈ combosN src db, a.length ≤ 1000 := by
  have hg : ∀ (ts : List (List (List Int))) (t : List (List Int)) (m : Nat), (∀ a ∈ t, a.length ≤ m) → (∀ x ∈ ts, ∀ a ∈ x, a.length ≤ 100) → ∀ a ∈ ts.foldl joinN t, a.length ≤ m + 100 * ts.length := by
    intro ts
    induction ts with
    | nil => intro t m h _ a ha; have := h a ha; simpa using this
    | cons x ts ih =>
      intro t m h hx a ha
      have := ih (joinN t x) (m + 100) (joinN_le h (hx x (by simp))) (fun y hy => hx y (by simp [hy])) a ha
      rw [List.length_cons]
      omega
  intro a ha
  unfold combosN at ha
  cases src with
  | nil => simp [combosT] at ha
  | cons b l =>
    have := hg (l.map (tabN db)) (tabN db b) 100 (hrow b) (fun x hx a ha => by
      obtain ⟨t, _, rfl⟩ := List.mem_map.1 hx
      exact hrow t a ha) a ha
    rw [List.length_map] at this
    rw [List.length_cons] at hl
    omega

end Go.Scout
namespace Go.Proofs.Ytlpbelhfpoilpaa
open Go.RowKit Go.Scout Go.Shelf

set_option maxRecDepth 20000 in
set_option maxHeartbeats 8000000 in
theorem combinations_any (s : IntsV) (d : Option Addr) (dcap : Nat) (db : List RowsV) (w : World) (hs : s.At w) (hdb : DbHad w d db) (h1 : 0 < s.xs.length) (h5 : s.xs.length ≤ 5) (hcp : s.xs.length ≤ s.cap) (ha : allB s.xs db.length = true)
    (hrow : ∀ t, ∀ r ∈ tabN db t, r.length ≤ 100) (hlen : ∀ t, (tabN db t).length ≤ 1000000) :
    Calls Try.prog 52 #[s.val, .slice d db.length dcap] w fun e w' => ∃ v, e = .returned v ∧ SeqV rowEl Try.prog v (combosN s.xs db) w' ∧ Below w.heap.size w w' := by
  obtain ⟨sad, scap, src⟩ := s
  unfold IntsV.val
  simp only at *
  have hl2 := hdb.1.1
  have HS : Hid _ := hs
  have HD : Hid _ := hdb
  have HA : Hid _ := ha
  have HRO : Hid _ := hrow
  have HLN : Hid _ := hlen
  clear hs hdb ha hrow hlen
  have hr0 := allB_at HA.out h1
  obtain ⟨b1, o1, rfl, hc1⟩ := HS.out.get h1
  have hck0 := hc1 0 h1
  have hj0 : src[0].toNat < db.length := by omega
  obtain ⟨b2, o2, rfl, hc2⟩ := HD.out.1.2.1.get hj0
  have hcl0 := hc2 _ hj0
  have e1 : src.getD 0 0 = src[0] := by simp [List.getD, h1]
  rw [e1, Nat.add_zero] at hck0
  have hcon := scan_make (db.getD src[0].toNat rz) w (HD.out.2 _ hj0)
  have hc01 : combosN (src.take 1) db = tabN db src[0] := by
    cases src with
    | nil => simp at h1
    | cons a l => simp [combosN, combosT]
  have HC1 : Hid _ := hc01
  have hcon' : Calls Try.prog 70 #[(db.getD src[0].toNat rz).val] w fun e w' => ∃ v, e = .returned v ∧ SeqV rowEl Try.prog v (tabN db src[0]) w' ∧ Below w.heap.size w w' := hcon
  rw [← hc01] at hcon'
  have HC2 : Hid (∀ j, j < db.length → w.cell? ⟨b2, o2 + j, none⟩ = some (db.getD j rz).val) := hc2
  have HCC : Hid (∀ j, j < src.length → w.cell? ⟨b1, o1 + j, none⟩ = some (.int .i64 (src.getD j 0))) := hc1
  clear hcon hc01 e1 hc1 hc2
  generalize db.getD src[0].toNat rz = x at *
  obtain ⟨xad, xcap, xs⟩ := x
  unfold RowsV.val at *
  simp only at *
  generalize hsv : src[0] = s0 at *
  clear hsv
  obtain ⟨cn, rfl⟩ : ∃ cn : Nat, s0 = (cn : Int) := ⟨s0.toNat, by omega⟩
  simp only [Int.toNat_natCast] at hj0 hcl0
  by_cases hone : src.length = 1
  · have hlst : src.take 1 = src := by rw [List.take_of_length_le (by omega)]
    rw [hlst] at hcon'
    have hlen1 : src.length - 1 = 0 := by omega
    clear hone hlst HC1 HC2 HCC
    go_enter Try.func52, Try.ntmps52
    go_wp2_with fail
    refine hcon'.mono ?_
    rintro e w2 ⟨v, rfl, hsv, hb2⟩
    have HSV : Hid _ := hsv
    obtain ⟨g0, lb0, rfl, _, _⟩ := hsv
    clear hcon'
    go_wp2
    all_goals
      go_loopw [5, 18] (fun v i wr => i = .int .i64 0 ∧ v = .func (.func g0) #[] lb0 ∧ w2 = wr) (fun _ _ _ => 0)
      case atStart => exact ⟨rfl, rfl, rfl⟩
      case round =>
        obtain ⟨rfl, rfl, rfl⟩ := hrel
        go_wp2
        go_ret
        exact ⟨_, rfl, HSV.out, hb2⟩
  · have h2 : 2 ≤ src.length := by omega
    have hsc : 2 ≤ scap := by omega
    clear hone
    go_enter Try.func52, Try.ntmps52
    go_wp2_with fail
    refine hcon'.mono ?_
    rintro e w2 ⟨v, rfl, hsv, hb2⟩
    have HSV : Hid _ := hsv
    obtain ⟨g0, lb0, rfl, _, _⟩ := id hsv
    clear hcon' hsv
    go_wp2
    go_loopw [5, 18] (fun v i wr => ∃ k : Nat, k + 1 ≤ src.length ∧ i = .int .i64 k ∧ SeqV rowEl Try.prog v (combosN (src.take (k + 1)) db) wr ∧ Below w.heap.size w wr) (fun _ i _ => src.length - (intOf i).toNat)
    case atStart => exact ⟨0, by omega, rfl, HSV.out, hb2⟩
    case round =>
      obtain ⟨k, hk, rfl, hsq, hbr⟩ := hrel
      obtain ⟨gk, lbk, rfl, egk, hseqk⟩ := id hsq
      have HSQ : Hid _ := hsq
      clear hsq hseqk egk
      by_cases hlt : k + 1 < src.length
      · have hr := allB_at HA.out hlt
        have hck := cell_below hbr (HCC.out _ hlt)
        have hj : src[k + 1].toNat < db.length := by omega
        have hcl := cell_below hbr (HC2.out _ hj)
        have e2 : src.getD (k + 1) 0 = src[k + 1] := by simp [List.getD, hlt]
        rw [e2] at hck
        have hsc2 := scan_make (db.getD src[k + 1].toNat rz) wr ((HD.out.2 _ hj).below hbr)
        have hsc3 : Calls Try.prog 70 #[(db.getD src[k + 1].toNat rz).val] wr fun e w' => ∃ v, e = .returned v ∧ SeqV rowEl Try.prog v (tabN db src[k + 1]) w' ∧ Below wr.heap.size wr w' := hsc2
        have HCS : Hid _ := combosN_succ (db := db) hlt
        have hle : ∀ a ∈ combosN (src.take (k + 1)) db, a.length ≤ 1000 := fun a ha => combosN_le HRO.out (by rw [List.length_take]; omega) a ha
        have HLE : Hid _ := hle
        have HT : Hid (∀ a ∈ tabN db src[k + 1], a.length ≤ 1000) := fun a ha => by have := HRO.out _ a ha; omega
        have HTL : Hid ((tabN db src[k + 1]).length ≤ 1000000) := HLN.out _
        have hoff : o1 + 1 + k = o1 + (k + 1) := by omega
        rw [← hoff] at hck
        clear hsc2 e2 hle
        generalize tabN db src[k + 1] = T at *
        generalize db.getD src[k + 1].toNat rz = y at *
        obtain ⟨yad, ycap, ys⟩ := y
        unfold RowsV.val at *
        simp only at *
        generalize hsv : src[k + 1] = s1 at *
        clear hsv hoff
        obtain ⟨cm, rfl⟩ : ∃ cm : Nat, s1 = (cm : Int) := ⟨s1.toNat, by omega⟩
        simp only [Int.toNat_natCast] at hj hcl
        have hlt1 : k < src.length - 1 := by omega
        go_wp2_with fail
        refine hsc3.mono ?_
        rintro e w3 ⟨v3, rfl, hs3, hb3⟩
        have hlm := loop_make (.func (.func gk) #[] lbk) v3 _ T w3 (SeqV.later HSQ.out hb3) hs3 HTL.out HLE.out HT.out
        obtain ⟨g3, lb3, rfl, _, _⟩ := id hs3
        clear hs3
        go_wp2_with fail
        refine hlm.mono ?_
        rintro e w4 ⟨v4, rfl, hs4, hb4⟩
        have HS4 : Hid _ := hs4
        have HB4 : Hid (Below w.heap.size w w4) := hbr.trans ((hb3.mono hbr.size).trans (hb4.mono (Nat.le_trans hbr.size hb3.size)))
        obtain ⟨g4, lb4, rfl, _, _⟩ := id hs4
        clear hs4 hb3 hb4 hlm hsc3 hck hcl
        go_wp2
        go_roundw
        case rel => exact ⟨k + 1, by omega, by go_num, by rw [HCS.out]; exact HS4.out, HB4.out⟩
        case measure => simp [intOf]; omega
      · have hkk : src.take (k + 1) = src := List.take_of_length_le (by omega)
        rw [hkk] at HSQ
        have hge : ¬ k < src.length - 1 := by omega
        clear hkk
        go_wp2
        go_ret
        exact ⟨_, rfl, HSQ.out, hbr⟩

end Go.Proofs.Ytlpbelhfpoilpaa

namespace Go.Proofs.Ytlpbelhfpoilpaa
open Go.RowKit Go.Scout Go.Shelf

set_option maxRecDepth 20000 in
set_option maxHeartbeats 8000000 in
/-- output, where nothing is grouped. -/
theorem outputP_any (vi : Value) (q : QueryV) (rows : List (List Int)) (w : World) (hg : q.group = false) (hi : SeqV rowEl Try.prog vi rows w) (hc : q.sel.At w) (hcl : q.sel.xs.length ≤ 1000) (hin : ∀ r ∈ rows, allB q.sel.xs r.length = true) :
    Calls Try.prog 56 #[vi, .agg q.cells] w fun e w' => ∃ v, e = .returned v ∧ SeqV (ownEl 3) Try.prog v (rows.map fun r => pickN r q.sel.xs) w' ∧ Below w.heap.size w w' := by
  have hb := below_alloc w (.cells q.cells 26)
  have hcon := project_make vi q.sel rows _ (hi.later hb) (IntsAt.below hb hc) hcl hin
  obtain ⟨gi, lbi, rfl, _, _⟩ := id hi
  clear hi hc hcl hin
  have HB : Hid _ := hb
  clear hb
  obtain ⟨src, wad, wcap, wh, group, keys, sums, ⟨lad, lcap, lxs⟩, ord⟩ := q
  unfold QueryV.cells IntsV.val at *
  simp only at *
  subst hg
  have hc5 : (w.alloc (.cells #[.slice src.ad src.xs.length src.cap, .slice wad wh.length wcap, .bool false, .slice keys.ad keys.xs.length keys.cap, .slice sums.ad sums.xs.length sums.cap, .slice lad lxs.length lcap, .slice ord.ad ord.xs.length ord.cap] 26)).cell? ⟨w.heap.size, 5, none⟩ = some (.slice lad lxs.length lcap) := by simp
  have hc2 : (w.alloc (.cells #[.slice src.ad src.xs.length src.cap, .slice wad wh.length wcap, .bool false, .slice keys.ad keys.xs.length keys.cap, .slice sums.ad sums.xs.length sums.cap, .slice lad lxs.length lcap, .slice ord.ad ord.xs.length ord.cap] 26)).cell? ⟨w.heap.size, 2, none⟩ = some (.bool false) := by simp
  go_enter Try.func56, Try.ntmps56
  go_wp2_with fail
  refine hcon.mono ?_
  rintro e w2 ⟨v, rfl, hs2, hb2⟩
  have HS : Hid _ := hs2
  obtain ⟨g2, lb2, rfl, _, _⟩ := id hs2
  clear hs2 hcon
  go_wp2
  go_ret
  exact ⟨_, rfl, HS.out, HB.out.trans (hb2.mono (by simp))⟩

set_option maxRecDepth 20000 in
set_option maxHeartbeats 8000000 in
/-- arranged, where no order is asked. -/
theorem arranged0_any (g : Nat) (lb : Array Value) (ao : Option Addr) (cap : Nat) (w : World) :
    Calls Try.prog 55 #[.func (.func g) #[] lb, .slice ao 0 cap] w fun e w' => e = .returned (.func (.func g) #[] lb) ∧ w' = w := by
  go_enter Try.func55, Try.ntmps55
  go_wp2
  go_ret
  exact ⟨rfl, rfl⟩

end Go.Proofs.Ytlpbelhfpoilpaa

