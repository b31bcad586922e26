import Derived.Test.YtlpbelhfpoilpaaGreatProg
import Derived.Test.YtlpbelhfpoilpaaGreatCPure1MkATruATruB
import Derived.Test.YtlpbelhfpoilpaaGreatCMkBBase6Base7GBk
import Derived.Test.YtlpbelhfpoilpaaGreatCMkCMkDGrNSoO
import Derived.Test.YtlpbelhfpoilpaaGreatCProgEProgFProgGProgH
set_option linter.all false
namespace Go.Proofs.YtlpbelhfpoilpaaGreat
open Go.RowKit Go.Scout

set_option maxRecDepth 20000 in
set_option maxHeartbeats 8000000 in
theorem rowsFit_any (v : RowsV) (n : Int) (w : World) (hr : v.At w) :
    Calls Tryz.prog 67 #[v.val, .int .i64 n] w fun e w' => e = .returned (.bool (fitB v.rs n)) ∧ w' = w := by
  obtain ⟨ad, cap, rs⟩ := v
  unfold RowsV.val
  simp only
  have hl := hr.1
  simp only at hl
  have HR : Hid _ := hr
  clear hr
  go_enter Tryz.func67, Tryz.ntmps67
  go_wp2
  go_loopw [11] (fun i wr => ∃ k : Nat, k ≤ rs.length ∧ i = .int .i64 k ∧ Hid (fitB (rs.take k) n = true) ∧ w = wr) (fun i _ => rs.length - (intOf i).toNat)
  case atStart => exact ⟨0, Nat.zero_le _, rfl, rfl, rfl⟩
  case round =>
    obtain ⟨k, hk, rfl, HP, rfl⟩ := hrel
    by_cases hlt : k < rs.length
    · obtain ⟨b, off, rfl, hcs⟩ := HR.out.2.1.get hlt
      have hck := hcs k hlt
      have hat := HR.out.2.2 k hlt
      have HBD : Hid (rowB (rs.getD k iz).xs n = false → false = fitB rs n) := fun h => (allG_bad (p := fun r : IntsV => rowB r.xs n) hlt h).symm
      have HGD : Hid (rowB (rs.getD k iz).xs n = true → fitB (rs.take (k + 1)) n = true) := fun h => allG_step (p := fun r : IntsV => rowB r.xs n) hlt HP.out h
      generalize rs.getD k iz = x at *
      obtain ⟨xad, xcap, xs⟩ := x
      simp only at *
      have hck' : w.cell? ⟨b, off + k, none⟩ = some (.slice xad xs.length xcap) := hck
      have hxl := hat.1
      simp only at hxl
      have HX : Hid _ := hat
      clear hck hcs hat
      by_cases hn : (xs.length : Int) = n
      · have hne : ((xs.length : Int) != n) = false := by simpa using hn
        go_wp2
        go_loopw [21] (fun i wr => ∃ m : Nat, m ≤ xs.length ∧ i = .int .i64 m ∧ Hid ((xs.take m).all valB = true) ∧ w = wr) (fun i _ => xs.length - (intOf i).toNat)
        case atStart => exact ⟨0, Nat.zero_le _, rfl, rfl, rfl⟩
        case round =>
          obtain ⟨m, hm, rfl, HV, rfl⟩ := hrel
          by_cases hml : m < xs.length
          · obtain ⟨xb, xoff, rfl, hxc⟩ := HX.out.get hml
            have hxm := hxc m hml
            have HVB : Hid (valB (xs.getD m 0) = false → xs.all valB = false) := fun h => allG_bad hml h
            have HVG : Hid (valB (xs.getD m 0) = true → (xs.take (m + 1)).all valB = true) := fun h => allG_step hml HV.out h
            generalize xs.getD m 0 = y at *
            clear hxc
            by_cases y0 : y = 1073741824
            · have f0 : (y != 1073741824) = false := by simpa using y0
              have HY : Hid (valB y = true) := show _ = _ by simp [valB, y0]
              clear y0
              go_wp2
              go_roundw
              case rel => exact ⟨m + 1, by omega, by go_num, HVG.out HY.out, trivial⟩
              case measure => simp [intOf]; omega
            · have f0 : (y != 1073741824) = true := by simpa using y0
              by_cases y1 : -1000 ≤ y
              · by_cases y2 : y ≤ 1000
                · have HY : Hid (valB y = true) := show _ = _ by simp [valB, y1, y2]
                  clear y0
                  go_wp2
                  go_roundw
                  case rel => exact ⟨m + 1, by omega, by go_num, HVG.out HY.out, trivial⟩
                  case measure => simp [intOf]; omega
                · have HY : Hid (false = fitB rs n) := HBD.out (by unfold rowB; rw [HVB.out (by simp [valB, y0, y2])]; simp)
                  clear y0
                  go_wp2
                  go_ret
                  exact ⟨ret_bool HY.out, rfl⟩
              · have HY : Hid (false = fitB rs n) := HBD.out (by unfold rowB; rw [HVB.out (by simp [valB, y0, y1])]; simp)
                clear y0
                go_wp2
                go_ret
                exact ⟨ret_bool HY.out, rfl⟩
          · have hmm : m = xs.length := by omega
            subst hmm
            rw [List.take_length] at HV
            have HG2 : Hid _ := HGD.out (by unfold rowB; rw [HV.out]; simp [hn])
            go_wp2
            go_roundw
            case rel => exact ⟨k + 1, by omega, by go_num, HG2.out, trivial⟩
            case measure => simp [intOf]; omega
      · have hne : ((xs.length : Int) != n) = true := by simpa using hn
        have HY : Hid (false = fitB rs n) := HBD.out (by unfold rowB; simp [hn])
        go_wp2
        go_ret
        exact ⟨ret_bool HY.out, rfl⟩
    · have hkk : k = rs.length := by omega
      subst hkk
      rw [List.take_length] at HP
      have HPP : Hid (true = fitB rs n) := HP.out.symm
      clear HP
      go_wp2
      go_ret
      exact ⟨ret_bool HPP.out, rfl⟩

set_option maxRecDepth 20000 in
set_option maxHeartbeats 8000000 in
theorem isDatabase_any (co : Option Addr) (cc : Nat) (ts : List TableD) (d : Option Addr) (dcap : Nat) (db : List RowsV) (w : World) (hts : TablesAt w co ts) (hdb : DbAt w d db) :
    Calls Tryz.prog 37 #[.slice co ts.length cc, .slice d db.length dcap] w fun e w' => e = .returned (.bool (decide (db.length = ts.length) && dbB ts db)) ∧ w' = w := by
  have hl1 := hts.1
  have hl2 := hdb.1
  have HT : Hid _ := hts
  have HD : Hid _ := hdb
  clear hts hdb
  by_cases hn : db.length = ts.length
  · have hne : ((db.length : Int) != (ts.length : Int)) = false := by rw [hn]; simp
    have hR : (decide (db.length = ts.length) && dbB ts db) = dbB ts db := by simp [hn]
    rw [hR]
    have HN : Hid _ := hn
    clear hR hn
    go_enter Tryz.func37, Tryz.ntmps37
    go_wp2
    go_loopw [14] (fun i wr => ∃ k : Nat, k ≤ db.length ∧ i = .int .i64 k ∧ Hid ((List.range k).all (fun i => tabB (db.getD i rz) (ts.getD i tz)) = true) ∧ w = wr) (fun i _ => db.length - (intOf i).toNat)
    case atStart => exact ⟨0, Nat.zero_le _, rfl, rfl, rfl⟩
    case round =>
      obtain ⟨k, hk, rfl, HP, rfl⟩ := hrel
      by_cases hlt : k < db.length
      · obtain ⟨b, off, rfl, hcs⟩ := HD.out.2.1.get hlt
        have hck := hcs k hlt
        have hat := HD.out.2.2 k hlt
        have hlt2 : k < ts.length := by have := HN.out; omega
        obtain ⟨tb, toff, rfl, t0, -, -, -, -, -⟩ := HT.out.2 k hlt2
        have HBD : Hid (tabB (db.getD k rz) (ts.getD k tz) = false → false = dbB ts db) := fun h => (range_all_bad (p := fun i => tabB (db.getD i rz) (ts.getD i tz)) hlt h).symm
        have HGD : Hid (tabB (db.getD k rz) (ts.getD k tz) = true → (List.range (k + 1)).all (fun i => tabB (db.getD i rz) (ts.getD i tz)) = true) := fun h => range_all_step (p := fun i => tabB (db.getD i rz) (ts.getD i tz)) HP.out h
        generalize db.getD k rz = x at *
        generalize (ts.getD k tz) = tt at *
        have hcon := rowsFit_any x tt.cols w hat
        obtain ⟨xad, xcap, xs⟩ := x
        obtain ⟨cols, trows, k0, k1, k2, k3⟩ := tt
        unfold RowsV.val at *
        simp only at *
        have hxl := hat.1
        simp only at hxl
        clear hcs hat
        by_cases h50 : 50 < xs.length
        · have HY : Hid (false = dbB ts db) := HBD.out (by unfold tabB; simp; omega)
          go_wp2
          go_ret
          exact ⟨ret_bool HY.out, rfl⟩
        · by_cases hf : fitB xs cols = true
          · have HY : Hid _ := HGD.out (by unfold tabB; simp [hf]; omega)
            rw [hf] at hcon
            clear hf
            go_wp2_with fail
            refine hcon.mono ?_
            rintro e w2 ⟨rfl, rfl⟩
            go_wp2
            go_roundw
            case rel => exact ⟨k + 1, by omega, by go_num, HY.out, trivial⟩
            case measure => simp [intOf]; omega
          · have hf' : fitB xs cols = false := by simpa using hf
            have HY : Hid (false = dbB ts db) := HBD.out (by unfold tabB; simp [hf'])
            rw [hf'] at hcon
            clear hf hf'
            go_wp2_with fail
            refine hcon.mono ?_
            rintro e w2 ⟨rfl, rfl⟩
            go_wp2
            go_ret
            exact ⟨ret_bool HY.out, rfl⟩
      · have hkk : k = db.length := by omega
        subst hkk
        have HPP : Hid (true = dbB ts db) := HP.out.symm
        clear HP
        go_wp2
        go_ret
        exact ⟨ret_bool HPP.out, rfl⟩
  · have hne : ((db.length : Int) != (ts.length : Int)) = true := by simp; omega
    have hR : (decide (db.length = ts.length) && dbB ts db) = false := by simp [hn]
    rw [hR]
    clear hR
    go_enter Tryz.func37, Tryz.ntmps37
    go_wp2
    go_ret
    exact ⟨rfl, rfl⟩

set_option maxRecDepth 20000 in
set_option maxHeartbeats 8000000 in
theorem count_any (s : IntsV) (d : Option Addr) (dcap : Nat) (db : List RowsV) (ts : List TableD) (w : World) (hs : s.At w) (hdb : DbAt w d db) (ha : allB s.xs db.length = true) (hl : s.xs.length ≤ 5) (hB : dbB ts db = true) :
    Calls Tryz.prog 38 #[s.val, .slice d db.length dcap] w fun e w' => e = .returned (.int .i64 (prodN s.xs db)) ∧ w' = w := by
  obtain ⟨sad, scap, src⟩ := s
  unfold IntsV.val
  simp only at *
  have hl2 := hdb.1
  have HS : Hid _ := hs
  have HD : Hid _ := hdb
  have HA : Hid _ := ha
  have HB : Hid _ := hB
  clear hs hdb ha hB
  go_enter Tryz.func38, Tryz.ntmps38
  go_wp2
  go_loopw [5, 10] (fun p i wr => ∃ k : Nat, k ≤ src.length ∧ i = .int .i64 k ∧ p = .int .i64 (prodN (src.take k) db) ∧ w = wr) (fun _ i _ => src.length - (intOf i).toNat)
  case atStart => exact ⟨0, Nat.zero_le _, rfl, rfl, rfl⟩
  case round =>
    obtain ⟨k, hk, rfl, rfl, rfl⟩ := hrel
    by_cases hlt : k < src.length
    · have hr := allB_at HA.out hlt
      obtain ⟨b1, o1, rfl, hc1⟩ := HS.out.get hlt
      have hck := hc1 k hlt
      have hj : src[k].toNat < db.length := by omega
      obtain ⟨b2, o2, rfl, hc2⟩ := HD.out.2.1.get hj
      have hcl := hc2 _ hj
      have hp1 := prodN_take_le HB.out hl k
      have hp2 := prodN_take_le HB.out hl (k + 1)
      have h50 := dbB_len HB.out src[k].toNat
      rw [prodN_succ hlt] at hp2
      have HPS : Hid _ := prodN_succ (db := db) hlt
      have e1 : src.getD k 0 = src[k] := by simp [List.getD, hlt]
      rw [e1] at hck
      generalize db.getD src[k].toNat rz = x at *
      generalize prodN (src.take k) db = p at *
      generalize hck0 : src[k] = ck at *
      clear e1 hc1 hc2 hck0
      obtain ⟨cn, rfl⟩ : ∃ cn : Nat, ck = (cn : Int) := ⟨ck.toNat, by omega⟩
      simp only [Int.toNat_natCast] at hj hcl
      obtain ⟨xad, xcap, xs⟩ := x
      unfold RowsV.val at *
      simp only at *
      have hmx : ((max 1 xs.length : Nat) : Int) = if (1 : Int) < (xs.length : Int) then (xs.length : Int) else 1 := by split <;> omega
      have hw : wrap64 ((p : Int) * (if (1 : Int) < (xs.length : Int) then (xs.length : Int) else 1)) = ((p * max 1 xs.length : Nat) : Int) := by
        rw [← hmx, ← Int.natCast_mul]
        unfold wrap64; omega
      have HWr : Hid _ := hw
      have HWm : Hid (wrap64 ((p : Int) * max 1 (xs.length : Int)) = ((p * max 1 xs.length : Nat) : Int)) := by
        show _ = _
        rw [show max 1 (xs.length : Int) = ((max 1 xs.length : Nat) : Int) by omega, ← Int.natCast_mul]
        unfold wrap64; omega
      clear hw hmx
      go_wp2
      go_roundw
      case rel => exact ⟨k + 1, by omega, by go_num, by rw [HPS.out]; first | exact congrArg (Value.int .i64) HWr.out | exact congrArg (Value.int .i64) HWm.out, trivial⟩
      case measure => simp [intOf]; omega
    · have hkk : k = src.length := by omega
      subst hkk
      rw [List.take_length]
      go_wp2
      go_ret
      exact ⟨rfl, rfl⟩

set_option maxRecDepth 20000 in
set_option maxHeartbeats 8000000 in
theorem checkData_any (co : Option Addr) (cc : Nat) (ts : List TableD) (q : QueryV) (d : Option Addr) (dcap : Nat) (db : List RowsV) (w : World) (hts : TablesAt w co ts) (hq : q.src.At w) (hdb : DbAt w d db) (ha : allB q.src.xs ts.length = true) (hl : q.src.xs.length ≤ 5) :
    Calls Tryz.prog 17 #[.slice co ts.length cc, .agg q.cells, .slice d db.length dcap] w fun e w' => e = .returned (.int .i64 (if dataB ts q.src.xs db then 0 else 4)) ∧ Below w.heap.size w w' := by
  have hb0 := below_alloc w (.cells q.cells 26)
  have hc1 := isDatabase_any co cc ts d dcap db _ (hts.below hb0) (hdb.below hb0)
  have hbb : Below w.heap.size w (w.alloc (.cells q.cells 26)) := hb0
  have hD : dataB ts q.src.xs db = ((decide (db.length = ts.length) && dbB ts db) && decide (prodN q.src.xs db ≤ 20000)) := rfl
  by_cases h1 : (decide (db.length = ts.length) && dbB ts db) = true
  · have h1' := h1
    simp only [Bool.and_eq_true, decide_eq_true_eq] at h1'
    have hc2 := count_any q.src d dcap db ts _ (IntsAt.below hb0 hq) (hdb.below hb0) (by rw [h1'.1]; exact ha) hl h1'.2
    rw [h1] at hc1 hD
    rw [hD]
    have hs : ((prodN q.src.xs db : Nat) : Int) > 20000 ∨ ¬ ((prodN q.src.xs db : Nat) : Int) > 20000 := by omega
    have HB : Hid _ := hbb
    have HN : Hid _ := h1'
    clear hD h1 h1' hb0 hbb hts hdb ha hl hq
    obtain ⟨⟨sad, scap, src⟩, wad, wcap, wh, group, keys, sums, sel, ord⟩ := q
    unfold QueryV.cells IntsV.val at *
    simp only at *
    generalize prodN src db = p at *
    have hx0 : (w.alloc (.cells #[.slice sad src.length scap, .slice wad wh.length wcap, .bool group, .slice keys.ad keys.xs.length keys.cap, .slice sums.ad sums.xs.length sums.cap, .slice sel.ad sel.xs.length sel.cap, .slice ord.ad ord.xs.length ord.cap] 26)).cell? ⟨w.heap.size, 0, none⟩ = some (.slice sad src.length scap) := by simp
    rcases hs with hs | hs
    · have hR : (if (true && decide (p ≤ 20000)) = true then (0 : Int) else 4) = 4 := by rw [if_neg]; simp; omega
      rw [hR]
      clear hR
      go_enter Tryz.func17, Tryz.ntmps17
      go_wp2_with fail
      refine hc1.mono ?_
      rintro e w2 ⟨rfl, rfl⟩
      go_wp2_with fail
      refine hc2.mono ?_
      rintro e w2 ⟨rfl, rfl⟩
      go_wp2
      go_ret
      exact ⟨rfl, HB.out⟩
    · have hR : (if (true && decide (p ≤ 20000)) = true then (0 : Int) else 4) = 0 := by rw [if_pos]; simp; omega
      rw [hR]
      clear hR
      go_enter Tryz.func17, Tryz.ntmps17
      go_wp2_with fail
      refine hc1.mono ?_
      rintro e w2 ⟨rfl, rfl⟩
      go_wp2_with fail
      refine hc2.mono ?_
      rintro e w2 ⟨rfl, rfl⟩
      go_wp2
      go_ret
      exact ⟨rfl, HB.out⟩
  · have h1' : (decide (db.length = ts.length) && dbB ts db) = false := by simpa using h1
    rw [h1'] at hc1 hD
    have hR : (if dataB ts q.src.xs db then (0 : Int) else 4) = 4 := by rw [hD]; rfl
    rw [hR]
    have HB : Hid _ := hbb
    clear hD h1 h1' hb0 hbb hts hdb ha hl hq hR
    obtain ⟨⟨sad, scap, src⟩, wad, wcap, wh, group, keys, sums, sel, ord⟩ := q
    unfold QueryV.cells IntsV.val at *
    simp only at *
    go_enter Tryz.func17, Tryz.ntmps17
    go_wp2_with fail
    refine hc1.mono ?_
    rintro e w2 ⟨rfl, rfl⟩
    go_wp2
    go_ret
    exact ⟨rfl, HB.out⟩

end Go.Proofs.YtlpbelhfpoilpaaGreat

namespace Go.Scout
open Go.RowKit

theorem dbB_fit {ts : List TableD} {db : List RowsV} (h : dbB ts db = true) {i : Nat} (hi : i < db.length) : (db.getD i rz).rs.length ≤ 50 ∧ ∀ r ∈ (db.getD i rz).rs, (r.xs.length : Int) = (ts.getD i tz).cols := by
  unfold dbB at h
  rw [List.all_eq_true] at h
  have h1 := h i (by simpa using hi)
  unfold tabB fitB at h1
  simp only [Bool.and_eq_true, decide_eq_true_eq] at h1
  refine ⟨h1.1, fun r hr => ?_⟩
  have h2 := h1.2
  rw [List.all_eq_true] at h2
  exact (rowB_at (h2 r hr)).1

theorem tabN_fit {ts : List TableD} {db : List RowsV} (h : dbB ts db = true) (t : Int) : ∀ r ∈ tabN db t, t.toNat < db.length ∧ (r.length : Int) = (ts.getD t.toNat tz).cols := by
  intro r hr
  unfold tabN at hr
  obtain ⟨x, hx, rfl⟩ := List.mem_map.1 hr
  by_cases hi : t.toNat < db.length
  · exact ⟨hi, (dbB_fit h hi).2 x hx⟩
  · have : db.getD t.toNat rz = rz := by simp [List.getD, hi]
    rw [this] at hx
    simp [rz] at hx

theorem combos_len {ts : List TableD} {src : List Int} {db : List RowsV} (h : dbB ts db = true) : ∀ r ∈ combosN src db, (r.length : Int) = widthN ts src := by
  have hg : ∀ (l : List Int) (T : List (List Int)) (m : Int), (∀ r ∈ T, (r.length : Int) = m) → ∀ r ∈ (l.map (tabN db)).foldl joinN T, (r.length : Int) = m + widthN ts l := by
    intro l
    induction l with
    | nil => intro T m hT r hr; have := hT r hr; simp [widthN]; exact this
    | cons a l ih =>
      intro T m hT r hr
      have hw : widthN ts (a :: l) = (ts.getD a.toNat tz).cols + widthN ts l := by simp [widthN]
      have := ih (joinN T (tabN db a)) (m + (ts.getD a.toNat tz).cols) (fun x hx => by
        unfold joinN at hx
        obtain ⟨y, hy, hx⟩ := List.mem_flatMap.1 hx
        obtain ⟨z, hz, rfl⟩ := List.mem_map.1 hx
        have h1 := hT y hy
        have h2 := (tabN_fit h a z hz).2
        rw [List.length_append]
        omega) r hr
      omega
  intro r hr
  unfold combosN at hr
  cases src with
  | nil => simp [combosT] at hr
  | cons a l =>
    have hw : widthN ts (a :: l) = (ts.getD a.toNat tz).cols + widthN ts l := by simp [widthN]
    have := hg l (tabN db a) (ts.getD a.toNat tz).cols (fun x hx => (tabN_fit h a x hx).2) r hr
    omega

theorem joinN_count (L R : List (List Int)) : (joinN L R).length = L.length * R.length := by
  unfold joinN
  induction L with
  | nil => simp
  | cons a L ih => rw [List.flatMap_cons, List.length_append, ih, List.length_map, List.length_cons, Nat.succ_mul, Nat.add_comm]

theorem combos_count (src : List Int) (db : List RowsV) : (combosN src db).length ≤ prodN src db := by
  have hg : ∀ (l : List Int) (T : List (List Int)) (n : Nat), T.length ≤ n → ((l.map (tabN db)).foldl joinN T).length ≤ l.foldl (fun n t => n * max 1 (db.getD t.toNat rz).rs.length) n := by
    intro l
    induction l with
    | nil => intro T n h; exact h
    | cons a l ih =>
      intro T n h
      refine ih (joinN T (tabN db a)) _ ?_
      rw [joinN_count, tabN_len]
      exact Nat.mul_le_mul h (by omega)
  unfold combosN prodN
  cases src with
  | nil => simp [combosT]
  | cons a l =>
    refine hg l (tabN db a) _ ?_
    rw [tabN_len]
    show _ ≤ 1 * max 1 _
    omega

end Go.Scout

namespace Go.Scout
open Go.RowKit

theorem check_parts {q : QueryV} {ts : List TableD} (h : q.check ts = 0) : catB ts = true ∧ fullB q.src.xs q.whs q.keys.xs q.sums.xs q.sel.xs q.ord.xs = false ∧ allB q.src.xs ts.length = true ∧ 0 < q.src.xs.length ∧ clausesB q.whs (widthN ts q.src.xs) = true ∧ restB (widthN ts q.src.xs) q.group q.keys.xs q.sums.xs q.sel.xs q.ord.xs = true := by
  unfold QueryV.check checkN at h
  by_cases h1 : catB ts = false
  · rw [if_pos h1] at h; omega
  · rw [if_neg h1] at h
    by_cases h2 : fullB q.src.xs q.whs q.keys.xs q.sums.xs q.sel.xs q.ord.xs = true
    · rw [if_pos h2] at h; omega
    · rw [if_neg h2] at h
      by_cases h3 : allB q.src.xs ts.length = true ∧ 0 < q.src.xs.length ∧ clausesB q.whs (widthN ts q.src.xs) = true ∧ restB (widthN ts q.src.xs) q.group q.keys.xs q.sums.xs q.sel.xs q.ord.xs = true
      · exact ⟨by simpa using h1, by simpa using h2, h3.1, h3.2.1, h3.2.2.1, h3.2.2.2⟩
      · rw [if_neg h3] at h; omega

theorem full_parts {src : List Int} {wh : List (List CondD)} {keys sums sel ord : List Int} (h : fullB src wh keys sums sel ord = false) : src.length ≤ 5 ∧ wh.length ≤ 8 ∧ sel.length ≤ 8 ∧ keys.length ≤ 4 ∧ sums.length ≤ 4 ∧ ord.length ≤ 4 := by
  unfold fullB at h
  rw [Bool.or_eq_false_iff] at h
  have := of_decide_eq_false h.1
  omega

theorem getD_mem {α : Type} {l : List α} {d : α} {k : Nat} (hk : k < l.length) : l.getD k d ∈ l := by
  have e : l.getD k d = l[k] := by simp [List.getD, hk]
  rw [e]
  exact List.getElem_mem hk

theorem clause_conds {q : QueryV} {n : Int} (h : clausesB q.whs n = true) {i : Nat} (hi : i < q.wh.length) {k : Nat} (hk : k < (q.wh.getD i lz).cs.length) : condB ((q.wh.getD i lz).cs.getD k cz) n = true := by
  unfold clausesB QueryV.whs at h
  rw [List.all_map, List.all_eq_true] at h
  have hm : q.wh.getD i lz ∈ q.wh := by simp [List.getD, hi]
  have h1 := h _ hm
  simp only [Function.comp] at h1
  unfold clauseB at h1
  simp only [Bool.and_eq_true] at h1
  have h2 := h1.2
  rw [List.all_eq_true] at h2
  exact h2 _ (getD_mem hk)

end Go.Scout
namespace Go.Proofs.YtlpbelhfpoilpaaGreat
open Go.RowKit Go.Scout Go.Shelf

set_option maxRecDepth 20000 in
set_option maxHeartbeats 8000000 in
/-- scout.Eval of a query that is one, groups nothing and asks no order, on a database that is one. -/
theorem evalP_any (co d : Option Addr) (cc dcap : Nat) (ts : List TableD) (q : QueryV) (db : List RowsV) (w : World) (hts : TablesAt w co ts) (hq : q.At w) (hkc : q.keys.xs.length ≤ q.keys.cap) (hoc : q.ord.xs.length ≤ q.ord.cap) (hsc : q.src.xs.length ≤ q.src.cap) (hdb : DbHad w d db)
    (hg : q.group = false) (ho : q.ord.xs = []) (hchk : q.check ts = 0) (hdat : dataB ts q.src.xs db = true) :
    Calls Tryz.prog 7 #[.slice co ts.length cc, .agg q.cells, .slice d db.length dcap] w fun e w' => ∃ (v : Value) (ys : List IntsV) (o : Nat → Prop) (w1 : World), e = .returned (.tuple #[v, .int .i64 0]) ∧ ys.map IntsV.xs = ((combosN q.src.xs db).filter (holdsB q.wh)).map (fun r => pickN r q.sel.xs) ∧
      Gathered (ownEl 3) w1.heap.size w1 23 ys o w' v ∧ Below w.heap.size w w1 := by
  obtain ⟨p1, p2, p3, p4, p5, p6⟩ := check_parts hchk
  have hf := full_parts p2
  have hdd : (db.length = ts.length ∧ dbB ts db = true) ∧ prodN q.src.xs db ≤ 20000 := by
    unfold dataB at hdat
    simp only [Bool.and_eq_true, decide_eq_true_eq] at hdat
    exact hdat
  have hcl := combos_len (src := q.src.xs) hdd.1.2
  have hcc := combos_count q.src.xs db
  have hsel : allB q.sel.xs (widthN ts q.src.xs) = true := by
    unfold restB at p6
    simp only [Bool.and_eq_true] at p6
    exact p6.1.1.1.1.1.1.1
  have hrow : ∀ t, ∀ r ∈ tabN db t, r.length ≤ 100 := fun t r hr => by
    obtain ⟨h1, h2⟩ := tabN_fit hdd.1.2 t r hr
    have := (cols_of p1 (i := t.toNat) (by omega)).2
    omega
  have hlen : ∀ t, (tabN db t).length ≤ 1000000 := fun t => by
    rw [tabN_len]
    have := dbB_len hdd.1.2 t.toNat
    omega
  have hb0 := below_alloc w (.cells q.cells 26)
  have hc1 := checkQ_any co cc ts q _ (hts.below hb0) (hq.below hb0) hkc hoc
  rw [hchk] at hc1
  obtain ⟨w0, hw0⟩ : ∃ w0, w.alloc (.cells q.cells 26) = w0 := ⟨_, rfl⟩
  have HX : Hid (w0.cell? ⟨w.heap.size, 0, none⟩ = some q.src.val ∧ w0.cell? ⟨w.heap.size, 1, none⟩ = some (.slice q.wad q.wh.length q.wcap) ∧ w0.cell? ⟨w.heap.size, 2, none⟩ = some (.bool q.group) ∧ w0.cell? ⟨w.heap.size, 3, none⟩ = some q.keys.val ∧ w0.cell? ⟨w.heap.size, 4, none⟩ = some q.sums.val ∧ w0.cell? ⟨w.heap.size, 5, none⟩ = some q.sel.val ∧ w0.cell? ⟨w.heap.size, 6, none⟩ = some q.ord.val) := by
    rw [← hw0]; unfold QueryV.cells; refine ⟨?_, ?_, ?_, ?_, ?_, ?_, ?_⟩ <;> simp
  rw [hw0] at hc1 hb0
  have hcd := fun (x : World) (hb : Below w.heap.size w x) => checkData_any co cc ts q d dcap db x (hts.below hb) (IntsAt.below hb hq.src) (hdb.1.below hb) p3 hf.1
  rw [if_pos hdat] at hcd
  have han := fun (x : World) (hb : Below w.heap.size w x) => answerP_any q d dcap db x hg ho (hq.below hb) (hdb.below hb) p4 hf.1 hsc (by rw [hdd.1.1]; exact p3) hrow hlen (fun r hr i hi k hk => by rw [hcl r hr]; exact clause_conds p5 hi hk) (by have := hf.2.2.1; omega) (fun r hr => by rw [hcl r hr]; exact hsel)
  have hrl : (((combosN q.src.xs db).filter (holdsB q.wh)).map (fun r => pickN r q.sel.xs)).length ≤ 1000000 := by
    rw [List.length_map]
    have := List.length_filter_le (holdsB q.wh) (combosN q.src.xs db)
    have := hdd.2
    omega
  have HRL : Hid _ := hrl
  have HCD : Hid _ := hcd
  have HAN : Hid _ := han
  have HB0 : Hid _ := hb0
  have HW0 : Hid _ := hw0
  clear hcd han hrl hb0 hw0 hts hq hkc hoc hsc hdb hchk hdat p1 p2 p3 p4 p5 p6 hf hdd hcl hcc hsel hrow hlen
  generalize ((combosN q.src.xs db).filter (holdsB q.wh)).map (fun r => pickN r q.sel.xs) = rows at *
  obtain ⟨⟨sad, scap, sxs⟩, wad, wcap, wh, group, keys, sums, ⟨lad, lcap, lxs⟩, ⟨oad, ocap, oxs⟩⟩ := q
  unfold QueryV.cells IntsV.val at *
  simp only at *
  subst ho
  subst hg
  obtain ⟨c0, c1, c2, c3, c4, c5, c6⟩ := HX.out
  simp only [List.length_nil] at *
  go_enter Tryz.func7, Tryz.ntmps7
  go_wp2_with fail
  rw [HW0.out]
  refine hc1.mono ?_
  rintro e w1 ⟨rfl, hb1⟩
  have hbw1 : Below w.heap.size w w1 := HB0.out.trans (hb1.mono HB0.out.size)
  have d0 := cell_below hb1 c0
  have d1 := cell_below hb1 c1
  have d2 := cell_below hb1 c2
  have d3 := cell_below hb1 c3
  have d4 := cell_below hb1 c4
  have d5 := cell_below hb1 c5
  have d6 := cell_below hb1 c6
  have hcd := HCD.out w1 hbw1
  clear hc1 c0 c1 c2 c3 c4 c5 c6
  go_wp2_with fail
  refine Calls.mono hcd ?_
  rintro e w2 ⟨rfl, hb2⟩
  have hbw2 : Below w.heap.size w w2 := hbw1.trans (hb2.mono hbw1.size)
  have e0 := cell_below hb2 d0
  have e1 := cell_below hb2 d1
  have e2 := cell_below hb2 d2
  have e3 := cell_below hb2 d3
  have e4 := cell_below hb2 d4
  have e5 := cell_below hb2 d5
  have e6 := cell_below hb2 d6
  have han := HAN.out w2 hbw2
  clear hcd d0 d1 d2 d3 d4 d5 d6
  go_wp2_with fail
  refine Calls.mono han ?_
  rintro e w3 ⟨v, rfl, hsv, hb3⟩
  have hbw3 : Below w.heap.size w w3 := hbw2.trans (hb3.mono hbw2.size)
  obtain ⟨g3, lb3, rfl, eg3, hs3⟩ := hsv
  have hga := gather_any (ownEl 3) (fun _ => rfl) g3 lb3 rows w3 w3 (Below.refl _ _) HRL.out hs3 eg3
  clear han e0 e1 e2 e3 e4 e5 e6 hs3 eg3
  go_wp2_with fail
  refine hga.mono ?_
  rintro e w4 ⟨v4, ys, o4, rfl, hys, hG4⟩
  obtain ⟨va, vn, vc, rfl⟩ := ownsRow_slice hG4.own
  clear hga
  go_wp2
  go_ret2
  exact ⟨_, ys, o4, w3, rfl, hys, hG4, hbw3⟩

end Go.Proofs.YtlpbelhfpoilpaaGreat

namespace Go.Scout
open Go.RowKit

theorem groupsN_len (kc sc : List Int) (rows : List (List Int)) : (groupsN kc sc rows).length ≤ 1 + rows.length := by
  have h := fold_len kc sc (rows.map fun r => (⟨none, 0, r⟩ : IntsV)) (startG kc sc)
  rw [List.foldl_map, List.length_map] at h
  have h3 : (startG kc sc).length ≤ 1 := by unfold startG; split <;> simp
  have h' : (rows.foldl (Go.Scout.stepG kc sc) (startG kc sc)).length ≤ (startG kc sc).length + rows.length := h
  unfold groupsN
  omega

theorem tabN_small {ts : List TableD} {db : List RowsV} (h : dbB ts db = true) (t : Int) : ∀ r ∈ tabN db t, ∀ v ∈ r, smallI v := by
  intro r hr v hv
  unfold tabN at hr
  obtain ⟨x, hx, rfl⟩ := List.mem_map.1 hr
  by_cases hi : t.toNat < db.length
  · unfold dbB at h
    rw [List.all_eq_true] at h
    have h1 := h t.toNat (List.mem_range.2 hi)
    unfold tabB fitB at h1
    rw [Bool.and_eq_true, List.all_eq_true] at h1
    have h2 := h1.2 x hx
    unfold rowB at h2
    rw [Bool.and_eq_true, List.all_eq_true] at h2
    have h3 := h2.2 v hv
    unfold valB at h3
    simp only [Bool.or_eq_true, Bool.and_eq_true, decide_eq_true_eq] at h3
    unfold smallI
    omega
  · have e : db.getD t.toNat rz = rz := by simp [List.getD, List.getElem?_eq_none (Nat.le_of_not_lt hi)]
    rw [e] at hx
    simp [rz] at hx

theorem joinN_small {L R : List (List Int)} (hL : ∀ r ∈ L, ∀ v ∈ r, smallI v) (hR : ∀ r ∈ R, ∀ v ∈ r, smallI v) : ∀ r ∈ joinN L R, ∀ v ∈ r, smallI v := by
  intro r hr v hv
  unfold joinN at hr
  obtain ⟨x, hx, hr⟩ := List.mem_flatMap.1 hr
  obtain ⟨y, hy, rfl⟩ := List.mem_map.1 hr
  rcases List.mem_append.1 hv with h | h
  · exact hL x hx v h
  · exact hR y hy v h

theorem foldJ_small : ∀ (ts : List (List (List Int))) (t : List (List Int)), (∀ r ∈ t, ∀ v ∈ r, smallI v) → (∀ u ∈ ts, ∀ r ∈ u, ∀ v ∈ r, smallI v) → ∀ r ∈ ts.foldl joinN t, ∀ v ∈ r, smallI v
  | [], _, h, _ => h
  | u :: ts, t, h, hs => foldJ_small ts (joinN t u) (joinN_small h (hs u (by simp))) (fun x hx => hs x (by simp [hx]))

theorem combos_small {ts : List TableD} {db : List RowsV} (h : dbB ts db = true) (src : List Int) : ∀ r ∈ combosN src db, ∀ v ∈ r, smallI v := by
  unfold combosN
  cases src with
  | nil => intro r hr; simp [combosT] at hr
  | cons a l =>
    rw [List.map_cons]
    refine foldJ_small _ _ (tabN_small h a) (fun u hu => ?_)
    obtain ⟨c, _, rfl⟩ := List.mem_map.1 hu
    exact tabN_small h c

end Go.Scout
namespace Go.Proofs.YtlpbelhfpoilpaaGreat
open Go.RowKit Go.Scout Go.Shelf

set_option maxRecDepth 20000 in
set_option maxHeartbeats 8000000 in
/-- scout.Eval of a query that is one, groups and asks no order, on a database that is one. -/
theorem evalG_any (co d : Option Addr) (cc dcap : Nat) (ts : List TableD) (q : QueryV) (db : List RowsV) (w : World) (hts : TablesAt w co ts) (hq : q.At w) (hkc : q.keys.xs.length ≤ q.keys.cap) (hoc : q.ord.xs.length ≤ q.ord.cap) (hsc : q.src.xs.length ≤ q.src.cap) (hdb : DbHad w d db)
    (hg : q.group = true) (ho : q.ord.xs = []) (hchk : q.check ts = 0) (hdat : dataB ts q.src.xs db = true) :
    Calls Tryz.prog 7 #[.slice co ts.length cc, .agg q.cells, .slice d db.length dcap] w fun e w' => ∃ (v : Value) (ys : List IntsV) (o : Nat → Prop) (w1 : World), e = .returned (.tuple #[v, .int .i64 0]) ∧ ys.map IntsV.xs = (groupsN q.keys.xs q.sums.xs ((combosN q.src.xs db).filter (holdsB q.wh))).map Gr.row ∧
      Gathered (ownEl 3) w1.heap.size w1 23 ys o w' v ∧ Below w.heap.size w w1 := by
  obtain ⟨p1, p2, p3, p4, p5, p6⟩ := check_parts hchk
  have hf := full_parts p2
  have hdd : (db.length = ts.length ∧ dbB ts db = true) ∧ prodN q.src.xs db ≤ 20000 := by
    unfold dataB at hdat
    simp only [Bool.and_eq_true, decide_eq_true_eq] at hdat
    exact hdat
  have hcl := combos_len (src := q.src.xs) hdd.1.2
  have hcc := combos_count q.src.xs db
  have hkey : allB q.keys.xs (widthN ts q.src.xs) = true ∧ allB q.sums.xs (widthN ts q.src.xs) = true := by
    unfold restB at p6
    simp only [Bool.and_eq_true] at p6
    exact ⟨p6.1.1.1.1.1.1.2, p6.1.1.1.1.1.2⟩
  have hsmall : ∀ r ∈ combosN q.src.xs db, ∀ v ∈ r, smallI v := combos_small hdd.1.2 q.src.xs
  have hrow : ∀ t, ∀ r ∈ tabN db t, r.length ≤ 100 := fun t r hr => by
    obtain ⟨h1, h2⟩ := tabN_fit hdd.1.2 t r hr
    have := (cols_of p1 (i := t.toNat) (by omega)).2
    omega
  have hlen : ∀ t, (tabN db t).length ≤ 1000000 := fun t => by
    rw [tabN_len]
    have := dbB_len hdd.1.2 t.toNat
    omega
  have hb0 := below_alloc w (.cells q.cells 26)
  have hc1 := checkQ_any co cc ts q _ (hts.below hb0) (hq.below hb0) hkc hoc
  rw [hchk] at hc1
  obtain ⟨w0, hw0⟩ : ∃ w0, w.alloc (.cells q.cells 26) = w0 := ⟨_, rfl⟩
  have HX : Hid (w0.cell? ⟨w.heap.size, 0, none⟩ = some q.src.val ∧ w0.cell? ⟨w.heap.size, 1, none⟩ = some (.slice q.wad q.wh.length q.wcap) ∧ w0.cell? ⟨w.heap.size, 2, none⟩ = some (.bool q.group) ∧ w0.cell? ⟨w.heap.size, 3, none⟩ = some q.keys.val ∧ w0.cell? ⟨w.heap.size, 4, none⟩ = some q.sums.val ∧ w0.cell? ⟨w.heap.size, 5, none⟩ = some q.sel.val ∧ w0.cell? ⟨w.heap.size, 6, none⟩ = some q.ord.val) := by
    rw [← hw0]; unfold QueryV.cells; refine ⟨?_, ?_, ?_, ?_, ?_, ?_, ?_⟩ <;> simp
  rw [hw0] at hc1 hb0
  have hcd := fun (x : World) (hb : Below w.heap.size w x) => checkData_any co cc ts q d dcap db x (hts.below hb) (IntsAt.below hb hq.src) (hdb.1.below hb) p3 hf.1
  rw [if_pos hdat] at hcd
  have han := fun (x : World) (hb : Below w.heap.size w x) => answerG_any q d dcap db x hg ho (hq.below hb) (hdb.below hb) p4 hf.1 hsc (by rw [hdd.1.1]; exact p3) hrow hlen (fun r hr i hi k hk => by rw [hcl r hr]; exact clause_conds p5 hi hk) hf.2.2.2.1 hf.2.2.2.2.1 (by have := hdd.2; omega) (fun r hr => by rw [hcl r hr]; exact hkey.1) (fun r hr => by rw [hcl r hr]; exact hkey.2) hsmall
  have hrl : ((groupsN q.keys.xs q.sums.xs ((combosN q.src.xs db).filter (holdsB q.wh))).map Gr.row).length ≤ 1000000 := by
    rw [List.length_map]
    have := List.length_filter_le (holdsB q.wh) (combosN q.src.xs db)
    have := hdd.2
    have := groupsN_len q.keys.xs q.sums.xs ((combosN q.src.xs db).filter (holdsB q.wh))
    omega
  have HRL : Hid _ := hrl
  have HCD : Hid _ := hcd
  have HAN : Hid _ := han
  have HB0 : Hid _ := hb0
  have HW0 : Hid _ := hw0
  clear hcd han hrl hb0 hw0 hts hq hkc hoc hsc hdb hchk hdat p1 p2 p3 p4 p5 p6 hf hdd hcl hcc hkey hsmall hrow hlen
  generalize (groupsN q.keys.xs q.sums.xs ((combosN q.src.xs db).filter (holdsB q.wh))).map Gr.row = rows at *
  obtain ⟨⟨sad, scap, sxs⟩, wad, wcap, wh, group, keys, sums, ⟨lad, lcap, lxs⟩, ⟨oad, ocap, oxs⟩⟩ := q
  unfold QueryV.cells IntsV.val at *
  simp only at *
  subst ho
  subst hg
  obtain ⟨c0, c1, c2, c3, c4, c5, c6⟩ := HX.out
  simp only [List.length_nil] at *
  go_enter Tryz.func7, Tryz.ntmps7
  go_wp2_with fail
  rw [HW0.out]
  refine hc1.mono ?_
  rintro e w1 ⟨rfl, hb1⟩
  have hbw1 : Below w.heap.size w w1 := HB0.out.trans (hb1.mono HB0.out.size)
  have d0 := cell_below hb1 c0
  have d1 := cell_below hb1 c1
  have d2 := cell_below hb1 c2
  have d3 := cell_below hb1 c3
  have d4 := cell_below hb1 c4
  have d5 := cell_below hb1 c5
  have d6 := cell_below hb1 c6
  have hcd := HCD.out w1 hbw1
  clear hc1 c0 c1 c2 c3 c4 c5 c6
  go_wp2_with fail
  refine Calls.mono hcd ?_
  rintro e w2 ⟨rfl, hb2⟩
  have hbw2 : Below w.heap.size w w2 := hbw1.trans (hb2.mono hbw1.size)
  have e0 := cell_below hb2 d0
  have e1 := cell_below hb2 d1
  have e2 := cell_below hb2 d2
  have e3 := cell_below hb2 d3
  have e4 := cell_below hb2 d4
  have e5 := cell_below hb2 d5
  have e6 := cell_below hb2 d6
  have han := HAN.out w2 hbw2
  clear hcd d0 d1 d2 d3 d4 d5 d6
  go_wp2_with fail
  refine Calls.mono han ?_
  rintro e w3 ⟨v, rfl, hsv, hb3⟩
  have hbw3 : Below w.heap.size w w3 := hbw2.trans (hb3.mono hbw2.size)
  obtain ⟨g3, lb3, rfl, eg3, hs3⟩ := hsv
  have hga := gather_any (ownEl 3) (fun _ => rfl) g3 lb3 rows w3 w3 (Below.refl _ _) HRL.out hs3 eg3
  clear han e0 e1 e2 e3 e4 e5 e6 hs3 eg3
  go_wp2_with fail
  refine hga.mono ?_
  rintro e w4 ⟨v4, ys, o4, rfl, hys, hG4⟩
  obtain ⟨va, vn, vc, rfl⟩ := ownsRow_slice hG4.own
  clear hga
  go_wp2
  go_ret2
  exact ⟨_, ys, o4, w3, rfl, hys, hG4, hbw3⟩

end Go.Proofs.YtlpbelhfpoilpaaGreat

