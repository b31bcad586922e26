import Derived.Test.YtlpbelhfpoilpaaGreatProg
import Derived.Test.YtlpbelhfpoilpaaGreatCCatAItDItEBase4
import Derived.Test.YtlpbelhfpoilpaaGreatCBase5PickAItFPure0
import Derived.Test.YtlpbelhfpoilpaaGreatCBase9RfCRfDRfP
set_option linter.all false
namespace Go.Scout
open Go.RowKit

theorem take_map_snoc {α β : Type} (f : α → β) (l : List α) {k : Nat} (hk : k < l.length) : (l.map f).take k ++ [f l[k]] = (l.map f).take (k + 1) := by
  rw [List.take_succ_eq_append_getElem (by simpa using hk)]
  simp

end Go.Scout
namespace Go.Proofs.YtlpbelhfpoilpaaGreat
open Go.RowKit Go.Scout

set_option maxRecDepth 20000 in
set_option maxHeartbeats 16000000 in
theorem told_any (q : QueryV) (ao : Option Addr) (cap : Nat) (rs : List IntsV) (w : World) (hk : q.keys.At w) (hs : q.sums.At w) (hr : RowsAt w ao rs) (hl : rs.length ≤ 100000) (hkl : q.keys.xs.length ≤ 4) (hsl : q.sums.xs.length ≤ 4)
    (hki : ∀ r ∈ rs, allB q.keys.xs r.xs.length = true) (hsi : ∀ r ∈ rs, allB q.sums.xs r.xs.length = true) (hne : q.keys.xs = [] ∨ rs ≠ []) (hv : ∀ r ∈ rs, ∀ c ∈ q.sums.xs, okV (r.xs.getD c.toNat 0)) :
    Calls Tryz.prog 52 #[.agg q.cells, .slice ao rs.length cap] w fun e w' => ∃ iv : IntsV, e = .returned iv.val ∧ iv.xs = toldN q.keys.xs q.sums.xs (rs.map IntsV.xs) ∧ (ownEl 3).At iv w' ∧ Below w.heap.size w w' := by
  have hb := below_alloc w (.cells q.cells 26)
  obtain ⟨w1, hw1⟩ : ∃ w1, w.alloc (.cells q.cells 26) = w1 := ⟨_, rfl⟩
  have x3 : w1.cell? ⟨w.heap.size, 3, none⟩ = some q.keys.val := by rw [← hw1]; unfold QueryV.cells; simp
  have x4 : w1.cell? ⟨w.heap.size, 4, none⟩ = some q.sums.val := by rw [← hw1]; unfold QueryV.cells; simp
  have HW1 : Hid _ := hw1
  rw [hw1] at hb
  have HR : Hid (RowsAt w1 ao rs) := hr.below hb
  have HK : Hid (q.keys.At w1) := IntsAt.below hb hk
  have HS : Hid (q.sums.At w1) := IntsAt.below hb hs
  have HB : Hid _ := hb
  have HKI : Hid _ := hki
  have HSI : Hid _ := hsi
  have HNE : Hid _ := hne
  have HV : Hid _ := hv
  clear hk hs hr hb hw1 hki hsi hne hv
  obtain ⟨src, wad, wcap, wh, group, ⟨kad, kcap, keys⟩, ⟨sad, scap, sums⟩, sel, ord⟩ := q
  unfold QueryV.cells IntsV.val at *
  simp only at *
  obtain ⟨r0, hr0⟩ : ∃ r0, r0 = (rs.map IntsV.xs).headD [] := ⟨_, rfl⟩
  have HT : Hid (toldN keys sums (rs.map IntsV.xs) = pickN r0 keys ++ [(rs.length : Int)] ++ sums.map fun c => refSum ((rs.map IntsV.xs).map fun r => r.getD c.toNat 0)) := show _ = _ by
    unfold toldN
    rw [← hr0, List.length_map]
  have HR0 : Hid _ := hr0
  clear hr0
  obtain ⟨sc, hsc⟩ : ∃ sc, sc = sums.map fun c => refSum ((rs.map IntsV.xs).map fun r => r.getD c.toNat 0) := ⟨_, rfl⟩
  rw [← hsc] at HT
  have HSC : Hid _ := hsc
  have hscl : sc.length = sums.length := by rw [hsc, List.length_map]
  clear hsc
  go_enter Tryz.func52, Tryz.ntmps52
  go_wp2_with fail
  rw [HW1.out]
  go_loopw [5, 6] (fun v kv wr => ∃ (k : Nat), k ≤ keys.length ∧ kv = .int .i64 k ∧ Hid (wr.ownsRow w1.heap.size 3 1 v k (((pickN r0 keys).take k).map (Value.int .i64))) ∧ Below w1.heap.size w1 wr) (fun _ kv _ => keys.length - (intOf kv).toNat)
  case atStart => exact ⟨0, Nat.zero_le _, rfl, World.ownsRow_nil _ _ _ _, Below.refl _ _⟩
  case round =>
    obtain ⟨k, hkb, rfl, HO, hbr⟩ := hrel
    have h3 := cell_below hbr x3
    have hsz := hbr.size
    by_cases hkt : k < keys.length
    · have hrs : 0 < rs.length := by
        rcases HNE.out with h | h
        · rw [h] at hkt; simp at hkt
        · exact List.length_pos_iff.2 h
      obtain ⟨b, off, rfl, hcs⟩ := CellsAt.get HR.out.2.1 hrs
      have hci := cell_below hbr (hcs 0 hrs)
      have hat := HR.out.2.2 0 hrs
      have hin1 := HKI.out (rs.getD 0 iz) (getD_memR hrs)
      have hr0e : r0 = (rs.getD 0 iz).xs := by
        rw [HR0.out]
        cases rs with
        | nil => simp at hrs
        | cons x l => rfl
      rw [hr0e] at HO ⊢
      obtain ⟨kb, ko, rfl, hkc⟩ := IntsAt.get HK.out hkt
      have hck := cell_below hbr (hkc k hkt)
      have hcv : keys.getD k 0 = keys[k] := by simp [List.getD, hkt]
      rw [hcv] at hck
      have hbd := allB_at hin1 hkt
      have HE0 : Hid _ := hr0e
      clear hcs hcv hkc hin1 hr0e
      generalize rs.getD 0 iz = x at *
      obtain ⟨xad, xcap, xs⟩ := x
      unfold IntsV.val IntsV.At at *
      simp only [Nat.add_zero] at *
      have hxl : xs.length ≤ 1152921504606846976 := hat.1
      have hkx : keys[k].toNat < xs.length := by omega
      obtain ⟨xb, xo, rfl, hxc⟩ := IntsAt.get hat hkx
      have hxk := cell_below hbr (hxc _ hkx)
      obtain ⟨ra, rm, rc, rfl⟩ := ownsRow_slice HO.out
      have htl : ((pickN xs keys).take k).length = k := by rw [List.length_take, pickN_len]; omega
      obtain ⟨v', w5, hr5, ho5, hk5, ⟨va, vm, vc, rfl⟩, -⟩ := push_int wr.drew w1.heap.size (.slice ra rm rc) ((pickN xs keys).take k) (by rw [htl]; exact HO.out.drew) (by omega) hsz (xs.getD keys[k].toNat 0) 23
      rw [pickN_snoc hkt] at ho5
      have htl2 : ((pickN xs keys).take (k + 1)).length = k + 1 := by rw [List.length_take, pickN_len]; omega
      rw [htl2] at ho5
      have hb5 : Below w1.heap.size w1 w5 := (hbr.drew).trans (hk5.below hsz (fun b hb e => by have := (ownsRow_lt HO.out e).1; omega))
      have HO5 : Hid _ := ho5
      have HB5 : Hid _ := hb5
      clear ho5 hb5 hk5 htl htl2 hxc HO hbr hsz hat
      generalize xs.getD keys[k].toNat 0 = xv at *
      generalize hck0 : keys[k] = ck at *
      clear hck0
      obtain ⟨cn, rfl⟩ : ∃ cn : Nat, ck = (cn : Int) := ⟨ck.toNat, by omega⟩
      simp only [Int.toNat_natCast] at hkx hxk
      go_wp2
      go_region_law (refine step_append (by rfl) _ _ _ (by rfl) (.slice ra rm rc) (.slice (some ⟨wr.heap.size, 0, none⟩) 1 1) (.slice va vm vc) w5 (by rfl) (by rfl) hr5 ?_)
      all_goals
        clear hr5 hci hck hxk h3
        go_wp2
        go_roundw
        case rel => exact ⟨k + 1, by omega, by go_num, HO5.out, HB5.out⟩
        case measure => simp [intOf]; omega
    · have hkk : (pickN r0 keys).take k = pickN r0 keys := List.take_of_length_le (by rw [pickN_len]; omega)
      have hke : k = (pickN r0 keys).length := by rw [pickN_len]; omega
      have ho := HO.out
      rw [hkk, hke] at ho
      obtain ⟨ra, rm, rc, rfl⟩ := ownsRow_slice ho
      obtain ⟨v', w5, hr5, ho5, hk5, ⟨va, vm, vc, rfl⟩, -⟩ := push_int wr w1.heap.size (.slice ra rm rc) (pickN r0 keys) ho (by rw [pickN_len]; omega) hsz (rs.length : Int) 23
      have hb5 : Below w1.heap.size w1 w5 := hbr.trans (hk5.below hsz (fun b hb e => by have := (ownsRow_lt HO.out e).1; omega))
      obtain ⟨pre, hpre⟩ : ∃ pre, pre = pickN r0 keys ++ [(rs.length : Int)] := ⟨_, rfl⟩
      have hpl : pre.length ≤ 5 := by rw [hpre, List.length_append, pickN_len]; simp; omega
      rw [← hpre] at HT ho5
      have HO5 : Hid _ := ho5
      have HB5 : Hid _ := hb5
      clear hkk ho hke hk5 ho5 hb5 hpre HO HR0 hbr hsz HNE HK HKI
      go_wp2_with (first | (at_builtin; refine wpList_append_run rfl (.tmp 31) (.tmp 34) 23 rfl (.slice ra rm rc) (.slice (some ⟨wr.heap.size, 0, none⟩) 1 1) (.slice va vm vc) w5 rfl rfl hr5 ?_))
      clear hr5 h3
      go_wp2
      go_loopw [5, 7] (fun v kv wr => ∃ (m : Nat), m ≤ sums.length ∧ kv = .int .i64 m ∧ Hid (wr.ownsRow w1.heap.size 3 1 v (pre ++ sc.take m).length ((pre ++ sc.take m).map (Value.int .i64))) ∧ Below w1.heap.size w1 wr) (fun _ kv _ => sums.length - (intOf kv).toNat)
      case atStart => exact ⟨0, Nat.zero_le _, rfl, by rw [List.take_zero, List.append_nil]; exact HO5.out, HB5.out⟩
      case round =>
        clear HO5 HB5
        obtain ⟨m, hmb, rfl, HO, hbr⟩ := hrel
        have h4 := cell_below hbr x4
        by_cases hmt : m < sums.length
        · obtain ⟨sb, so, rfl, hsc1⟩ := IntsAt.get HS.out hmt
          have HCK : Hid _ := hsc1 m hmt
          have hcv : sums.getD m 0 = sums[m] := by simp [List.getD, hmt]
          rw [hcv] at HCK
          have hsm : sc.take m ++ [refSum ((rs.map IntsV.xs).map fun r => r.getD sums[m].toNat 0)] = sc.take (m + 1) := by
            rw [HSC.out]
            exact take_map_snoc (fun c => refSum ((rs.map IntsV.xs).map fun r => r.getD c.toNat 0)) sums hmt
          have HSM : Hid _ := hsm
          have HBD : Hid (∀ r ∈ rs, 0 ≤ sums[m] ∧ sums[m] < (r.xs.length : Int)) := fun r hr => allB_at (HSI.out r hr) hmt
          have HVV : Hid (∀ r ∈ rs, okV (r.xs.getD sums[m].toNat 0)) := fun r hr => HV.out r hr _ (List.getElem_mem hmt)
          generalize hc0 : sums[m] = c at *
          clear hc0 hcv hsc1 hsm
          obtain ⟨col, hcol⟩ : ∃ col, col = (rs.map IntsV.xs).map fun r => r.getD c.toNat 0 := ⟨_, rfl⟩
          have hcl : col.length = rs.length := by rw [hcol]; simp
          have HCA : Hid (∀ i, i < rs.length → col.getD i 0 = (rs.getD i iz).xs.getD c.toNat 0) := fun i hi => by rw [hcol]; simp [List.getD, hi]
          have HCO : Hid (∀ v ∈ col, okV v) := fun v hv => by
            rw [hcol, List.map_map] at hv
            obtain ⟨r, hr, rfl⟩ := List.mem_map.1 hv
            exact HVV.out r hr
          rw [← hcol] at HSM
          clear hcol HVV
          obtain ⟨wk, hwk⟩ : ∃ wk, wk = wr := ⟨_, rfl⟩
          have HBK : Hid _ := hbr
          rw [← hwk] at HBK HO
          go_wp2
          rw [← hwk]
          clear hwk hbr h4
          go_loopw [8, 9, 10] (fun nv sv kv wr => ∃ (j : Nat), j ≤ rs.length ∧ kv = .int .i64 j ∧ nv = .int .i64 (cntV (col.take j) : Nat) ∧ sv = .int .i64 (sumV (col.take j)) ∧ Below wk.heap.size wk wr) (fun _ _ kv _ => rs.length - (intOf kv).toNat)
          case atStart => exact ⟨0, Nat.zero_le _, rfl, rfl, rfl, Below.refl _ _⟩
          case round =>
            obtain ⟨j, hjb, rfl, rfl, rfl, hbr⟩ := hrel
            have hb1 := Below.step HBK.out hbr
            by_cases hjt : j < rs.length
            · obtain ⟨b, off, rfl, hcs⟩ := CellsAt.get HR.out.2.1 hjt
              have hci := cell_below hb1 (hcs j hjt)
              have hat := HR.out.2.2 j hjt
              have hbd := HBD.out (rs.getD j iz) (getD_memR hjt)
              have hca := HCA.out j hjt
              have hck := cell_below hb1 HCK.out
              have h4 := cell_below hb1 x4
              have hjc : j < col.length := by omega
              have hts : col.take (j + 1) = col.take j ++ [col.getD j 0] := (take_snoc col 0 hjc).symm
              have hcnt := cntV_le (col.take j)
              have hsum := sumV_bd (col.take j) (fun v hv => HCO.out v (List.mem_of_mem_take hv))
              have htl : (col.take j).length = j := by rw [List.length_take]; omega
              rw [htl] at hcnt hsum
              have hcn := cntV_snoc (col.take j) (col.getD j 0)
              have hsn := sumV_snoc (col.take j) (col.getD j 0)
              have hok := HCO.out (col.getD j 0) (getD_memR hjc)
              rw [← hts] at hcn hsn
              have HCN : Hid _ := hcn
              have HSN : Hid _ := hsn
              clear hcs hts htl hcn hsn hjc
              generalize cntV (col.take j) = cn at *
              generalize sumV (col.take j) = sn at *
              generalize rs.getD j iz = x at *
              obtain ⟨xad, xcap, xs⟩ := x
              unfold IntsV.val IntsV.At at *
              simp only at *
              have hxl : xs.length ≤ 1152921504606846976 := hat.1
              have hkx : c.toNat < xs.length := by omega
              obtain ⟨xb, xo, rfl, hxc⟩ := IntsAt.get hat hkx
              have hxk := cell_below hb1 (hxc _ hkx)
              rw [← hca] at hxk
              clear hca hat hxc
              generalize col.getD j 0 = y at *
              obtain ⟨cq, hcq⟩ : ∃ cq : Nat, c = (cq : Int) := ⟨c.toNat, by omega⟩
              rw [hcq] at hck hbd
              have hcq2 : c.toNat = cq := by omega
              rw [hcq2] at hkx hxk
              have HBR : Hid _ := hbr
              clear hcq hcq2 hb1 hbr
              by_cases y0 : y = 1073741824
              · have f0 : (y != 1073741824) = false := by simpa using y0
                have HC2 : Hid (cntV (col.take (j + 1)) = cn) := show _ = _ by rw [HCN.out, if_pos y0]
                have HS2 : Hid (sumV (col.take (j + 1)) = sn) := show _ = _ by rw [HSN.out, if_pos y0]
                clear y0 hok
                go_wp2
                go_region
                go_wp2
                go_roundw
                case rel => exact ⟨j + 1, by omega, by go_num, by rw [HC2.out], by rw [HS2.out], HBR.out.drew⟩
                case measure => simp [intOf]; omega
              · have f0 : (y != 1073741824) = true := by simpa using y0
                have HC2 : Hid (cntV (col.take (j + 1)) = cn + 1) := show _ = _ by rw [HCN.out, if_neg y0]
                have HS2 : Hid (sumV (col.take (j + 1)) = sn + y) := show _ = _ by rw [HSN.out, if_neg y0]
                have hyb : -1000 ≤ y ∧ y ≤ 1000 := by
                  rcases hok with h | h
                  · exact absurd h y0
                  · exact h
                have hws : wrap64 (sn + y) = sn + y := by unfold wrap64; omega
                clear y0 hok
                go_wp2
                go_region
                go_wp2
                go_region
                go_wp2
                go_roundw
                case rel => exact ⟨j + 1, by omega, by go_num, by rw [HC2.out]; first | rfl | simp, by rw [HS2.out], HBR.out.drew.drew⟩
                case measure => simp [intOf]; omega
            · have hjj : col.take j = col := List.take_of_length_le (by omega)
              rw [hjj]
              have ho : wr.ownsRow w1.heap.size 3 1 _ (pre ++ sc.take m).length ((pre ++ sc.take m).map (Value.int .i64)) := ownsRow_move HO.out (Nat.le_refl _) (fun j _ hj => hbr.block j hj)
              obtain ⟨ra, rm, rc, rfl⟩ := ownsRow_slice ho
              have hsz := hb1.size
              have hlen : (pre ++ sc.take m).length ≤ 10 := by rw [List.length_append, List.length_take]; omega
              have hcb := cntV_le col
              obtain ⟨v', w5, hr5, ho5, hk5, ⟨va, vm, vc, rfl⟩, -⟩ := push_int wr w1.heap.size (.slice ra rm rc) (pre ++ sc.take m) ho (by omega) hsz (refSum col) 23
              have hb5 : Below w1.heap.size w1 w5 := hb1.trans (hk5.below hsz (fun b hb e => by have := (ownsRow_lt ho e).1; omega))
              rw [List.append_assoc, HSM.out] at ho5
              have HO5 : Hid _ := ho5
              have HB5 : Hid _ := hb5
              clear hjj ho hsz hk5 ho5 hb5 hb1 hbr hlen HO
              by_cases hc0 : cntV col = 0
              · have hrf : refSum col = 1073741824 := by unfold refSum; rw [if_pos hc0]
                rw [hrf] at hr5
                rw [hc0]
                clear hrf hc0 hcb
                go_wp2_with (first | (at_builtin; refine wpList_append_run rfl (.tmp 78) (.tmp 80) 23 rfl (.slice ra rm rc) (.slice (some ⟨wr.heap.size, 0, none⟩) 1 1) (.slice va vm vc) w5 rfl rfl hr5 ?_))
                clear hr5
                go_wp2
                go_roundw
                case rel => exact ⟨m + 1, by omega, by go_num, HO5.out, HB5.out⟩
                case measure => simp [intOf]; omega
              · have hrf : refSum col = sumV col := by unfold refSum; rw [if_neg hc0]
                rw [hrf] at hr5
                generalize sumV col = sv at *
                generalize cntV col = cv at *
                have hcv0 : ((cv : Int) == 0) = false := by
                  have : ¬ (cv : Int) = 0 := by omega
                  simpa using this
                clear hrf hc0
                go_wp2_with (first | (at_builtin; refine wpList_append_run rfl (.tmp 78) (.tmp 80) 23 rfl (.slice ra rm rc) (.slice (some ⟨wr.heap.size, 0, none⟩) 1 1) (.slice va vm vc) w5 rfl rfl hr5 ?_))
                clear hr5
                go_wp2
                go_roundw
                case rel => exact ⟨m + 1, by omega, by go_num, HO5.out, HB5.out⟩
                case measure => simp [intOf]; omega
        · have hmm : sc.take m = sc := List.take_of_length_le (by omega)
          have ho := HO.out
          rw [hmm] at ho
          obtain ⟨iv, hv, hxs, hia, -⟩ := ownEl_of_own ho (by rw [List.length_append]; omega)
          have HF : Hid (iv.xs = toldN keys sums (rs.map IntsV.xs) ∧ (ownEl 3).At iv wr) := ⟨by rw [hxs, HT.out], hia⟩
          rw [hv]
          clear hmm ho HO hv hxs hia
          unfold IntsV.val
          go_wp2
          go_ret
          exact ⟨iv, rfl, HF.out.1, HF.out.2, Below.step HB.out hbr⟩

end Go.Proofs.YtlpbelhfpoilpaaGreat

namespace Go.Scout
open Go.RowKit

/-- Is a value ahead of another? -/
def aheadB (a b : Int) : Bool := if a = 1073741824 ∨ b = 1073741824 then decide (a = 1073741824) && decide (b ≠ 1073741824) else decide (a < b)

/-- Is a row ahead of another, by places? -/
def beforeB (xs ys : List Int) : List Int → Bool
  | [] => false
  | p :: ps => if xs.getD p.toNat 0 = ys.getD p.toNat 0 then beforeB xs ys ps else aheadB (xs.getD p.toNat 0) (ys.getD p.toNat 0)

theorem beforeB_drop {xs ys ps : List Int} {k : Nat} (hk : k < ps.length) : beforeB xs ys (ps.drop k) =
    if xs.getD ps[k].toNat 0 = ys.getD ps[k].toNat 0 then beforeB xs ys (ps.drop (k + 1)) else aheadB (xs.getD ps[k].toNat 0) (ys.getD ps[k].toNat 0) := by
  rw [List.drop_eq_getElem_cons hk, beforeB]

theorem ahead_null1 {b : Int} (hb : ¬ b = 1073741824) : true = aheadB 1073741824 b := by simp [aheadB, hb]
theorem ahead_null2 : false = aheadB 1073741824 1073741824 := by simp [aheadB]
theorem ahead_null3 {a : Int} (ha : ¬ a = 1073741824) : false = aheadB a 1073741824 := by simp [aheadB, ha]
theorem ahead_num {a b : Int} (ha : ¬ a = 1073741824) (hb : ¬ b = 1073741824) : decide (a < b) = aheadB a b := by simp [aheadB, ha, hb]

end Go.Scout
namespace Go.Proofs.YtlpbelhfpoilpaaGreat
open Go.RowKit Go.Scout

theorem ahead_any (a b : Int) (w : World) :
    Calls Tryz.prog 76 #[.int .i64 a, .int .i64 b] w fun e w' => e = .returned (.bool (aheadB a b)) ∧ w' = w := by
  have n1 := @ahead_null1 b
  have n3 := @ahead_null3 a
  have nn := @ahead_num a b
  by_cases ha : a = 1073741824
  · by_cases hb : b = 1073741824
    · subst ha hb
      have HF : Hid _ := ahead_null2
      clear n1 n3 nn
      generalize aheadB 1073741824 1073741824 = R at *
      go_enter Tryz.func76, Tryz.ntmps76
      go_wp2
      go_ret
      exact ⟨ret_bool HF.out, rfl⟩
    · subst ha
      have HF : Hid _ := n1 hb
      have hb1 : (b == 1073741824) = false := by simpa using hb
      have hb2 : (b != 1073741824) = true := by simpa using hb
      clear n1 n3 nn hb
      generalize aheadB 1073741824 b = R at *
      go_enter Tryz.func76, Tryz.ntmps76
      go_wp2
      go_ret
      exact ⟨ret_bool HF.out, rfl⟩
  · have ha1 : (a == 1073741824) = false := by simpa using ha
    by_cases hb : b = 1073741824
    · subst hb
      have HF : Hid _ := n3 ha
      clear n1 n3 nn ha
      generalize aheadB a 1073741824 = R at *
      go_enter Tryz.func76, Tryz.ntmps76
      go_wp2
      go_ret
      exact ⟨ret_bool HF.out, rfl⟩
    · have HF : Hid _ := nn ha hb
      have hb1 : (b == 1073741824) = false := by simpa using hb
      clear n1 n3 nn ha hb
      generalize aheadB a b = R at *
      go_enter Tryz.func76, Tryz.ntmps76
      go_wp2
      go_ret
      exact ⟨ret_bool HF.out, rfl⟩

set_option maxHeartbeats 2000000 in
theorem before_any (ao bo po : Option Addr) (ca cb cp : Nat) (xs ys ps : List Int) (w : World) (hx : IntsAt w ao xs) (hy : IntsAt w bo ys) (hp : IntsAt w po ps) (h1 : allB ps xs.length = true) (h2 : allB ps ys.length = true) :
    Calls Tryz.prog 54 #[.slice ao xs.length ca, .slice bo ys.length cb, .slice po ps.length cp] w fun e w' => e = .returned (.bool (beforeB xs ys ps)) ∧ w' = w := by
  have hl := hp.1
  have hlx := hx.1
  have hly := hy.1
  have H1 : Hid _ := h1
  have H2 : Hid _ := h2
  clear h1 h2
  go_enter Tryz.func54, Tryz.ntmps54
  go_wp2
  go_loop [7] (fun i => ∃ k : Nat, k ≤ ps.length ∧ i = .int .i64 k ∧ Hid (beforeB xs ys ps = beforeB xs ys (ps.drop k))) (fun i => ps.length - (intOf i).toNat)
  case atStart => exact ⟨0, Nat.zero_le _, rfl, by rw [List.drop_zero]; exact rfl⟩
  case round =>
    obtain ⟨k, hk, rfl, HP⟩ := hrel
    by_cases hlt : k < ps.length
    · obtain ⟨b3, o3, rfl, hc⟩ := hp.get hlt
      have hck := hc k hlt
      have r1 := allB_at H1.out hlt
      have r2 := allB_at H2.out hlt
      have hi : ps[k].toNat < xs.length := by omega
      have hj : ps[k].toNat < ys.length := by omega
      obtain ⟨b1, o1, rfl, hc1⟩ := hx.get hi
      obtain ⟨b2, o2, rfl, hc2⟩ := hy.get hj
      have hx1 := hc1 _ hi
      have hy1 := hc2 _ hj
      have HD : Hid _ := beforeB_drop (xs := xs) (ys := ys) hlt
      clear hc hc1 hc2 hx hy hp
      generalize xs.getD ps[k].toNat 0 = x at *
      generalize ys.getD ps[k].toNat 0 = y at *
      by_cases hxy : x = y
      · have hne : (x != y) = false := by simpa using hxy
        have HD' : Hid (beforeB xs ys (ps.drop k) = beforeB xs ys (ps.drop (k + 1))) := show _ = _ by rw [HD.out, if_pos hxy]
        clear HD hxy
        go_wp2
        go_round
        case rel => exact ⟨k + 1, by omega, by go_num, show _ = _ by rw [HP.out, HD'.out]⟩
        case measure => simp [intOf]; omega
      · have hne : (x != y) = true := by simpa using hxy
        have HD' : Hid (aheadB x y = beforeB xs ys ps) := show _ = _ by rw [HP.out, HD.out, if_neg hxy]
        have hC := ahead_any x y w
        clear HD hxy
        go_wp2_with fail
        refine hC.mono ?_
        clear hC
        rintro e w2 ⟨rfl, rfl⟩
        go_wp2
        go_ret
        exact ⟨ret_bool HD'.out, rfl⟩
    · have HF : Hid (false = beforeB xs ys ps) := show _ = _ by rw [HP.out, List.drop_eq_nil_of_le (by omega)]; rfl
      go_wp2
      go_ret
      exact ⟨ret_bool HF.out, rfl⟩

end Go.Proofs.YtlpbelhfpoilpaaGreat

namespace Go.Scout
open Go.RowKit

def alikeB (xs ys : List Int) (ps : List Int) : Bool := ps.all fun p => decide (xs.getD p.toNat 0 = ys.getD p.toNat 0)
theorem alikeB_step {xs ys ps : List Int} {k : Nat} (hk : k < ps.length) (hp : alikeB xs ys (ps.take k) = true) (h : xs.getD ps[k].toNat 0 = ys.getD ps[k].toNat 0) : alikeB xs ys (ps.take (k + 1)) = true := by
  unfold alikeB at *
  rw [List.take_succ_eq_append_getElem hk, List.all_append, hp]
  simpa using h
theorem alikeB_bad {xs ys ps : List Int} {k : Nat} (hk : k < ps.length) (h : ¬ xs.getD ps[k].toNat 0 = ys.getD ps[k].toNat 0) : false = alikeB xs ys ps := by
  symm
  unfold alikeB
  rw [List.all_eq_false]
  exact ⟨ps[k], List.getElem_mem hk, by simpa using h⟩

end Go.Scout
namespace Go.Proofs.YtlpbelhfpoilpaaGreat
open Go.RowKit Go.Scout

set_option maxHeartbeats 2000000 in
theorem alike_any (ao bo po : Option Addr) (ca cb cp : Nat) (xs ys ps : List Int) (w : World) (hx : IntsAt w ao xs) (hy : IntsAt w bo ys) (hp : IntsAt w po ps) (h1 : allB ps xs.length = true) (h2 : allB ps ys.length = true) :
    Calls Tryz.prog 53 #[.slice ao xs.length ca, .slice bo ys.length cb, .slice po ps.length cp] w fun e w' => e = .returned (.bool (alikeB xs ys ps)) ∧ Below w.heap.size w w' := by
  have hl := hp.1
  have hlx := hx.1
  have hly := hy.1
  have H1 : Hid _ := h1
  have H2 : Hid _ := h2
  clear h1 h2
  go_enter Tryz.func53, Tryz.ntmps53
  go_wp2
  go_loopw [7] (fun i wr => ∃ k : Nat, k ≤ ps.length ∧ i = .int .i64 k ∧ Hid (alikeB xs ys (ps.take k) = true) ∧ ∃ n, wr = w.drewN n) (fun i _ => ps.length - (intOf i).toNat)
  case atStart => exact ⟨0, Nat.zero_le _, rfl, rfl, 0, rfl⟩
  case round =>
    obtain ⟨k, hk, rfl, HP, n, rfl⟩ := hrel
    by_cases hlt : k < ps.length
    · obtain ⟨b3, o3, rfl, hc⟩ := hp.get hlt
      have hck := hc k hlt
      have r1 := allB_at H1.out hlt
      have r2 := allB_at H2.out hlt
      have hi : ps[k].toNat < xs.length := by omega
      have hj : ps[k].toNat < ys.length := by omega
      obtain ⟨b1, o1, rfl, hc1⟩ := hx.get hi
      obtain ⟨b2, o2, rfl, hc2⟩ := hy.get hj
      have hx1 := hc1 _ hi
      have hy1 := hc2 _ hj
      have HG : Hid (xs.getD ps[k].toNat 0 = ys.getD ps[k].toNat 0 → alikeB xs ys (ps.take (k + 1)) = true) := fun h => alikeB_step hlt HP.out h
      have HB : Hid (¬ xs.getD ps[k].toNat 0 = ys.getD ps[k].toNat 0 → false = alikeB xs ys ps) := fun h => alikeB_bad hlt h
      clear hc hc1 hc2 hx hy hp
      generalize xs.getD ps[k].toNat 0 = x at *
      generalize ys.getD ps[k].toNat 0 = y at *
      by_cases hxy : x = y
      · have hne : (x != y) = false := by simpa using hxy
        have HD' : Hid (alikeB xs ys (ps.take (k + 1)) = true) := HG.out hxy
        clear HG HB hxy
        go_wp2
        go_quiet (fail)
        go_wp2
        go_roundw
        case rel => exact ⟨k + 1, by omega, by go_num, HD', _, rfl⟩
        case measure => simp [intOf]; omega
      · have hne : (x != y) = true := by simpa using hxy
        have HD' : Hid (false = alikeB xs ys ps) := HB.out hxy
        clear HG HB hxy
        go_wp2
        go_quiet (fail)
        go_wp2
        go_ret
        exact ⟨ret_bool HD'.out, by first | exact below_drewN (below_drewN (Below.refl _ _) _) _ | exact below_drewN (Below.refl _ _) _⟩
    · have HF : Hid (true = alikeB xs ys ps) := show _ = _ by
        have := HP.out
        rw [List.take_of_length_le (by omega)] at this
        exact this.symm
      go_wp2
      go_ret
      exact ⟨ret_bool HF.out, below_drewN (Below.refl _ _) _⟩

set_option maxRecDepth 20000 in
set_option maxHeartbeats 8000000 in
theorem truth_any (c : CondD) (ao : Option Addr) (cap : Nat) (xs : List Int) (w : World) (hx : IntsAt w ao xs) (hop : c.op = 0 ∨ c.op = 1 ∨ c.op = 2) (hl : 0 ≤ c.left ∧ c.left < xs.length) (hr : c.op = 2 ∨ c.const = true ∨ (0 ≤ c.right ∧ c.right < xs.length)) :
    Calls Tryz.prog 51 #[c.val, .slice ao xs.length cap] w fun e w' => e = .returned (.int .i64 (truthN c xs)) ∧ Below w.heap.size w w' := by
  have hlen := hx.1
  obtain ⟨b, off, rfl, hc⟩ := hx.get (i := c.left.toNat) (by omega)
  have hcl := cell_alloc (hc c.left.toNat (by omega))
  have hbw := lt_of_cell (hc c.left.toNat (by omega))
  obtain ⟨nt, op, left, const, right⟩ := c
  unfold CondD.val
  simp only at hop hl hr hcl
  have HT : Hid (truthN ⟨nt, op, left, const, right⟩ xs = truthN ⟨nt, op, left, const, right⟩ xs) := rfl
  generalize hR : truthN ⟨nt, op, left, const, right⟩ xs = R at *
  clear HT
  unfold truthN at hR
  simp only at hR
  generalize hL : xs.getD left.toNat 0 = L at *
  rcases hop with rfl | rfl | rfl
  · cases const
    · have hr' : 0 ≤ right ∧ right < xs.length := by
        rcases hr with h | h | h
        · omega
        · cases h
        · exact h
      have hcr := cell_alloc (hc right.toNat (by omega))
      have hRR : (if (0 : Int) = 2 ∨ false = true then right else xs.getD right.toNat 0) = xs.getD right.toNat 0 := if_neg (by simp)
      rw [hRR] at hR
      clear hRR hr hc hx hL
      generalize xs.getD right.toNat 0 = Q at *
      by_cases l1 : L = 1073741824
      · have f1 : (L != 1073741824) = false := by simpa using l1
        cases nt
        · have HF : Hid ((0 : Int) = R) := show _ = _ by rw [← hR]; simp [truthV, l1]
          clear hR l1
          go_enter Tryz.func51, Tryz.ntmps51
          go_wp2
          go_ret
          exact ⟨ret_int HF.out, below_alloc _ _⟩
        · have HF : Hid ((0 : Int) = R) := show _ = _ by rw [← hR]; simp [truthV, l1]
          clear hR l1
          go_enter Tryz.func51, Tryz.ntmps51
          go_wp2
          go_ret
          exact ⟨ret_int HF.out, below_alloc _ _⟩
      · have f1 : (L != 1073741824) = true := by simpa using l1
        by_cases r1 : Q = 1073741824
        · have f2 : (Q != 1073741824) = false := by simpa using r1
          cases nt
          · have HF : Hid ((0 : Int) = R) := show _ = _ by rw [← hR]; simp [truthV, r1]
            clear hR l1 r1
            go_enter Tryz.func51, Tryz.ntmps51
            go_wp2
            go_ret
            exact ⟨ret_int HF.out, below_alloc _ _⟩
          · have HF : Hid ((0 : Int) = R) := show _ = _ by rw [← hR]; simp [truthV, r1]
            clear hR l1 r1
            go_enter Tryz.func51, Tryz.ntmps51
            go_wp2
            go_ret
            exact ⟨ret_int HF.out, below_alloc _ _⟩
        · have f2 : (Q != 1073741824) = true := by simpa using r1
          by_cases y1 : L = Q
          · have f3 : (L == Q) = true := by simpa using y1
            have y2 : ¬ Q = 1073741824 := r1
            cases nt
            · have HF : Hid ((1 : Int) = R) := show _ = _ by rw [← hR]; simp [truthV, y1, y2]
              clear hR l1 r1 y1 y2
              go_enter Tryz.func51, Tryz.ntmps51
              go_wp2
              go_ret
              exact ⟨ret_int HF.out, below_alloc _ _⟩
            · have HF : Hid ((-1 : Int) = R) := show _ = _ by rw [← hR]; simp [truthV, y1, y2]
              clear hR l1 r1 y1 y2
              go_enter Tryz.func51, Tryz.ntmps51
              go_wp2
              go_ret
              exact ⟨ret_int HF.out, below_alloc _ _⟩
          · have f3 : (L == Q) = false := by simpa using y1
            cases nt
            · have HF : Hid ((-1 : Int) = R) := show _ = _ by rw [← hR]; simp [truthV, l1, r1, y1]
              clear hR l1 r1 y1
              go_enter Tryz.func51, Tryz.ntmps51
              go_wp2
              go_ret
              exact ⟨ret_int HF.out, below_alloc _ _⟩
            · have HF : Hid ((1 : Int) = R) := show _ = _ by rw [← hR]; simp [truthV, l1, r1, y1]
              clear hR l1 r1 y1
              go_enter Tryz.func51, Tryz.ntmps51
              go_wp2
              go_ret
              exact ⟨ret_int HF.out, below_alloc _ _⟩
    · have hRR : (if (0 : Int) = 2 ∨ true = true then right else xs.getD right.toNat 0) = right := if_pos (by simp)
      rw [hRR] at hR
      clear hRR hr hc hx hL
      generalize hQ : right = Q at *
      clear hQ
      by_cases l1 : L = 1073741824
      · have f1 : (L != 1073741824) = false := by simpa using l1
        cases nt
        · have HF : Hid ((0 : Int) = R) := show _ = _ by rw [← hR]; simp [truthV, l1]
          clear hR l1
          go_enter Tryz.func51, Tryz.ntmps51
          go_wp2
          go_ret
          exact ⟨ret_int HF.out, below_alloc _ _⟩
        · have HF : Hid ((0 : Int) = R) := show _ = _ by rw [← hR]; simp [truthV, l1]
          clear hR l1
          go_enter Tryz.func51, Tryz.ntmps51
          go_wp2
          go_ret
          exact ⟨ret_int HF.out, below_alloc _ _⟩
      · have f1 : (L != 1073741824) = true := by simpa using l1
        by_cases r1 : Q = 1073741824
        · have f2 : (Q != 1073741824) = false := by simpa using r1
          cases nt
          · have HF : Hid ((0 : Int) = R) := show _ = _ by rw [← hR]; simp [truthV, r1]
            clear hR l1 r1
            go_enter Tryz.func51, Tryz.ntmps51
            go_wp2
            go_ret
            exact ⟨ret_int HF.out, below_alloc _ _⟩
          · have HF : Hid ((0 : Int) = R) := show _ = _ by rw [← hR]; simp [truthV, r1]
            clear hR l1 r1
            go_enter Tryz.func51, Tryz.ntmps51
            go_wp2
            go_ret
            exact ⟨ret_int HF.out, below_alloc _ _⟩
        · have f2 : (Q != 1073741824) = true := by simpa using r1
          by_cases y1 : L = Q
          · have f3 : (L == Q) = true := by simpa using y1
            have y2 : ¬ Q = 1073741824 := r1
            cases nt
            · have HF : Hid ((1 : Int) = R) := show _ = _ by rw [← hR]; simp [truthV, y1, y2]
              clear hR l1 r1 y1 y2
              go_enter Tryz.func51, Tryz.ntmps51
              go_wp2
              go_ret
              exact ⟨ret_int HF.out, below_alloc _ _⟩
            · have HF : Hid ((-1 : Int) = R) := show _ = _ by rw [← hR]; simp [truthV, y1, y2]
              clear hR l1 r1 y1 y2
              go_enter Tryz.func51, Tryz.ntmps51
              go_wp2
              go_ret
              exact ⟨ret_int HF.out, below_alloc _ _⟩
          · have f3 : (L == Q) = false := by simpa using y1
            cases nt
            · have HF : Hid ((-1 : Int) = R) := show _ = _ by rw [← hR]; simp [truthV, l1, r1, y1]
              clear hR l1 r1 y1
              go_enter Tryz.func51, Tryz.ntmps51
              go_wp2
              go_ret
              exact ⟨ret_int HF.out, below_alloc _ _⟩
            · have HF : Hid ((1 : Int) = R) := show _ = _ by rw [← hR]; simp [truthV, l1, r1, y1]
              clear hR l1 r1 y1
              go_enter Tryz.func51, Tryz.ntmps51
              go_wp2
              go_ret
              exact ⟨ret_int HF.out, below_alloc _ _⟩
  · cases const
    · have hr' : 0 ≤ right ∧ right < xs.length := by
        rcases hr with h | h | h
        · omega
        · cases h
        · exact h
      have hcr := cell_alloc (hc right.toNat (by omega))
      have hRR : (if (1 : Int) = 2 ∨ false = true then right else xs.getD right.toNat 0) = xs.getD right.toNat 0 := if_neg (by simp)
      rw [hRR] at hR
      clear hRR hr hc hx hL
      generalize xs.getD right.toNat 0 = Q at *
      by_cases l1 : L = 1073741824
      · have f1 : (L != 1073741824) = false := by simpa using l1
        cases nt
        · have HF : Hid ((0 : Int) = R) := show _ = _ by rw [← hR]; simp [truthV, l1]
          clear hR l1
          go_enter Tryz.func51, Tryz.ntmps51
          go_wp2
          go_ret
          exact ⟨ret_int HF.out, below_alloc _ _⟩
        · have HF : Hid ((0 : Int) = R) := show _ = _ by rw [← hR]; simp [truthV, l1]
          clear hR l1
          go_enter Tryz.func51, Tryz.ntmps51
          go_wp2
          go_ret
          exact ⟨ret_int HF.out, below_alloc _ _⟩
      · have f1 : (L != 1073741824) = true := by simpa using l1
        by_cases r1 : Q = 1073741824
        · have f2 : (Q != 1073741824) = false := by simpa using r1
          cases nt
          · have HF : Hid ((0 : Int) = R) := show _ = _ by rw [← hR]; simp [truthV, r1]
            clear hR l1 r1
            go_enter Tryz.func51, Tryz.ntmps51
            go_wp2
            go_ret
            exact ⟨ret_int HF.out, below_alloc _ _⟩
          · have HF : Hid ((0 : Int) = R) := show _ = _ by rw [← hR]; simp [truthV, r1]
            clear hR l1 r1
            go_enter Tryz.func51, Tryz.ntmps51
            go_wp2
            go_ret
            exact ⟨ret_int HF.out, below_alloc _ _⟩
        · have f2 : (Q != 1073741824) = true := by simpa using r1
          by_cases y1 : L < Q
          · skip
            cases nt
            · have HF : Hid ((1 : Int) = R) := show _ = _ by rw [← hR]; simp [truthV, l1, r1, y1]
              clear hR l1 r1
              go_enter Tryz.func51, Tryz.ntmps51
              go_wp2
              go_ret
              exact ⟨ret_int HF.out, below_alloc _ _⟩
            · have HF : Hid ((-1 : Int) = R) := show _ = _ by rw [← hR]; simp [truthV, l1, r1, y1]
              clear hR l1 r1
              go_enter Tryz.func51, Tryz.ntmps51
              go_wp2
              go_ret
              exact ⟨ret_int HF.out, below_alloc _ _⟩
          · skip
            cases nt
            · have HF : Hid ((-1 : Int) = R) := show _ = _ by rw [← hR]; simp [truthV, l1, r1, y1]
              clear hR l1 r1
              go_enter Tryz.func51, Tryz.ntmps51
              go_wp2
              go_ret
              exact ⟨ret_int HF.out, below_alloc _ _⟩
            · have HF : Hid ((1 : Int) = R) := show _ = _ by rw [← hR]; simp [truthV, l1, r1, y1]
              clear hR l1 r1
              go_enter Tryz.func51, Tryz.ntmps51
              go_wp2
              go_ret
              exact ⟨ret_int HF.out, below_alloc _ _⟩
    · have hRR : (if (1 : Int) = 2 ∨ true = true then right else xs.getD right.toNat 0) = right := if_pos (by simp)
      rw [hRR] at hR
      clear hRR hr hc hx hL
      generalize hQ : right = Q at *
      clear hQ
      by_cases l1 : L = 1073741824
      · have f1 : (L != 1073741824) = false := by simpa using l1
        cases nt
        · have HF : Hid ((0 : Int) = R) := show _ = _ by rw [← hR]; simp [truthV, l1]
          clear hR l1
          go_enter Tryz.func51, Tryz.ntmps51
          go_wp2
          go_ret
          exact ⟨ret_int HF.out, below_alloc _ _⟩
        · have HF : Hid ((0 : Int) = R) := show _ = _ by rw [← hR]; simp [truthV, l1]
          clear hR l1
          go_enter Tryz.func51, Tryz.ntmps51
          go_wp2
          go_ret
          exact ⟨ret_int HF.out, below_alloc _ _⟩
      · have f1 : (L != 1073741824) = true := by simpa using l1
        by_cases r1 : Q = 1073741824
        · have f2 : (Q != 1073741824) = false := by simpa using r1
          cases nt
          · have HF : Hid ((0 : Int) = R) := show _ = _ by rw [← hR]; simp [truthV, r1]
            clear hR l1 r1
            go_enter Tryz.func51, Tryz.ntmps51
            go_wp2
            go_ret
            exact ⟨ret_int HF.out, below_alloc _ _⟩
          · have HF : Hid ((0 : Int) = R) := show _ = _ by rw [← hR]; simp [truthV, r1]
            clear hR l1 r1
            go_enter Tryz.func51, Tryz.ntmps51
            go_wp2
            go_ret
            exact ⟨ret_int HF.out, below_alloc _ _⟩
        · have f2 : (Q != 1073741824) = true := by simpa using r1
          by_cases y1 : L < Q
          · skip
            cases nt
            · have HF : Hid ((1 : Int) = R) := show _ = _ by rw [← hR]; simp [truthV, l1, r1, y1]
              clear hR l1 r1
              go_enter Tryz.func51, Tryz.ntmps51
              go_wp2
              go_ret
              exact ⟨ret_int HF.out, below_alloc _ _⟩
            · have HF : Hid ((-1 : Int) = R) := show _ = _ by rw [← hR]; simp [truthV, l1, r1, y1]
              clear hR l1 r1
              go_enter Tryz.func51, Tryz.ntmps51
              go_wp2
              go_ret
              exact ⟨ret_int HF.out, below_alloc _ _⟩
          · skip
            cases nt
            · have HF : Hid ((-1 : Int) = R) := show _ = _ by rw [← hR]; simp [truthV, l1, r1, y1]
              clear hR l1 r1
              go_enter Tryz.func51, Tryz.ntmps51
              go_wp2
              go_ret
              exact ⟨ret_int HF.out, below_alloc _ _⟩
            · have HF : Hid ((1 : Int) = R) := show _ = _ by rw [← hR]; simp [truthV, l1, r1, y1]
              clear hR l1 r1
              go_enter Tryz.func51, Tryz.ntmps51
              go_wp2
              go_ret
              exact ⟨ret_int HF.out, below_alloc _ _⟩
  · have hRR : (if (2 : Int) = 2 ∨ const = true then right else xs.getD right.toNat 0) = right := if_pos (by simp)
    rw [hRR] at hR
    clear hRR hr hc hx hL
    by_cases l1 : L = 1073741824
    · have f1 : (L != 1073741824) = false := by simpa using l1
      have f2 : (L == 1073741824) = true := by simpa using l1
      cases nt
      · have HF : Hid ((1 : Int) = R) := show _ = _ by rw [← hR]; simp [truthV, l1]
        clear hR l1
        go_enter Tryz.func51, Tryz.ntmps51
        go_wp2
        go_ret
        exact ⟨ret_int HF.out, below_alloc _ _⟩
      · have HF : Hid ((-1 : Int) = R) := show _ = _ by rw [← hR]; simp [truthV, l1]
        clear hR l1
        go_enter Tryz.func51, Tryz.ntmps51
        go_wp2
        go_ret
        exact ⟨ret_int HF.out, below_alloc _ _⟩
    · have f1 : (L != 1073741824) = true := by simpa using l1
      have f2 : (L == 1073741824) = false := by simpa using l1
      by_cases r1 : right = 1073741824
      · have f3 : (right != 1073741824) = false := by simpa using r1
        cases nt
        · have HF : Hid ((-1 : Int) = R) := show _ = _ by rw [← hR]; simp [truthV, l1]
          clear hR l1 r1
          go_enter Tryz.func51, Tryz.ntmps51
          go_wp2
          go_ret
          exact ⟨ret_int HF.out, below_alloc _ _⟩
        · have HF : Hid ((1 : Int) = R) := show _ = _ by rw [← hR]; simp [truthV, l1]
          clear hR l1 r1
          go_enter Tryz.func51, Tryz.ntmps51
          go_wp2
          go_ret
          exact ⟨ret_int HF.out, below_alloc _ _⟩
      · have f3 : (right != 1073741824) = true := by simpa using r1
        cases nt
        · have HF : Hid ((-1 : Int) = R) := show _ = _ by rw [← hR]; simp [truthV, l1]
          clear hR l1 r1
          go_enter Tryz.func51, Tryz.ntmps51
          go_wp2
          go_ret
          exact ⟨ret_int HF.out, below_alloc _ _⟩
        · have HF : Hid ((1 : Int) = R) := show _ = _ by rw [← hR]; simp [truthV, l1]
          clear hR l1 r1
          go_enter Tryz.func51, Tryz.ntmps51
          go_wp2
          go_ret
          exact ⟨ret_int HF.out, below_alloc _ _⟩

end Go.Proofs.YtlpbelhfpoilpaaGreat

