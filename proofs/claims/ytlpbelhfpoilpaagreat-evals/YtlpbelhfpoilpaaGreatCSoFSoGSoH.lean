import Derived.Deep.CutRange
import Derived.Test.YtlpbelhfpoilpaaGreatCSoBSoCSoDSoE
set_option linter.all false
namespace Go.Scout
open Go.RowKit

theorem sr_n1 {a m b p la len : Nat} (ha : a = p) (hm : m = p + la) (hb : b = p + la + 1) (hlen : b ≤ len) (hl : len ≤ 1000000) (h2 : 2 ≤ la) : wrap64 ((m : Int) - (a : Int)) = (la : Int) ∧ wrap64 ((b : Int) - (m : Int)) = 1 ∧ a ≤ m ∧ m ≤ 1000000 ∧ m < len ∧ ((la : Int) == 1) = false ∧ m = a + la := by
  have h : ¬ (la : Int) = 1 := by omega
  refine ⟨by unfold wrap64; omega, by unfold wrap64; omega, by omega, by omega, by omega, by simpa using h, by omega⟩
theorem sr_n2 {c a p b1 b4 b5 b3 la len b : Nat} (ha : a = p) (hb : b = p + la + 1) (hlen : b ≤ len) (hl : len ≤ 1000000) (hA : la = b1 + (b4 + (b5 + 1)) + b3) (ec : c = a + b1 + b4) : c = p + (b1 + b4) ∧ c < len ∧ c + 1 ≤ 1000000 := by omega
theorem sr_n3 {i k kp c3 a p a1 m len : Nat} (ha : a = p) (hi : i = a + a1) (hk : k = i + (c3 + 1)) (h : k = kp + 1) (hkm : k ≤ m) (hm : m < len) (hl : len ≤ 1000000) : kp = p + a1 + c3 ∧ kp + 1 = p + a1 + c3 + 1 + 0 ∧ kp + 1 < len ∧ kp < len ∧ i < kp + 1 ∧ kp = i + c3 ∧ kp ≤ m ∧ kp + 1 ≤ 1000000 := by omega
theorem sr_n4 {kp i len : Nat} (h1 : i < kp + 1) (h2 : kp + 1 < len) (h3 : kp + 1 ≤ 1000000) : (i : Int) < (kp : Int) + 1 ∧ (kp : Int) + 1 < (len : Int) ∧ (kp : Int) < (len : Int) ∧ (0 : Int) ≤ (kp : Int) + 1 ∧ ((kp : Int) + 1).toNat = kp + 1 ∧ IntKind.i64.wrap (kp : Int) = (kp : Int) := by
  refine ⟨by omega, by omega, by omega, by omega, by omega, by rw [IntKind.wrap_i64]; omega⟩

end Go.Scout
namespace Go.Proofs.YtlpbelhfpoilpaaGreat
open Go.RowKit Go.Scout

set_option maxRecDepth 20000 in
set_option maxHeartbeats 4000000 in
/-- symMerge, where the second part is one row. -/
theorem symRight_any (blk cap len a m b g : Nat) (lb : Array Value) (cf : IntsV → IntsV → Int) (ok : IntsV → Prop) (w0 : World) (hC : Cmps Tryz.prog g lb cf blk w0 ok) (eg : ∀ args w, (callFunc g args).run Tryz.prog w = .ok (.enter g args) w) (O : Ahead (ltC cf))
    (P A Q : List IntsV) (x : IntsV) (R : List Value) (w : World) (hG : GB w blk 23 (SL (P ++ A ++ x :: Q) R)) (hB : InRow (ltC cf) A) (hx : ok x) (hok : ∀ y ∈ A, ok y) (hK : Kept (fun b => b ≠ blk) w0 w) (ha : a = P.length) (hm : m = P.length + A.length) (hb : b = P.length + A.length + 1) (hlen : b ≤ len) (hl : len ≤ 1000000) (h2 : 2 ≤ A.length) :
    Calls Tryz.prog 110 #[.slice (some ⟨blk, 0, none⟩) len cap, .int .i64 a, .int .i64 m, .int .i64 b, .func (.func g) #[] lb] w fun e w' => e = .returned (.tuple #[]) ∧ GB w' blk 23 (SL (P ++ mg (ltC cf) A [x] ++ Q) R) ∧ Kept (fun b => b ≠ blk) w w' := by
  have hn1 := sr_n1 ha hm hb hlen hl h2
  have hw1 := hn1.1
  have hw2 := hn1.2.1
  have hq1 := hn1.2.2.2.2.2.1
  have hml := hn1.2.2.2.2.1
  have HG : Hid (GB w blk 23 (SL (P ++ A ++ x :: Q) R)) := hG
  have HC : Hid _ := hC
  have HO : Hid _ := hok
  have HX : Hid _ := hx
  have HB : Hid _ := hB
  have HK : Hid _ := hK
  have HA : Hid _ := And.intro ha (And.intro hm (And.intro hb (And.intro hlen hl)))
  have HN : Hid _ := hn1
  clear hG hC hok hx hB hK ha hm hb hlen hl hn1
  go_enter Tryz.func110, Tryz.ntmps110
  go_wp2
  simp only [hw1, hw2, hq1]
  clear hw1 hw2 hq1 h2
  go_loopw [14, 15] (fun iv jv wr => ∃ (i j n : Nat) (B1 B2 B3 : List IntsV), iv = .int .i64 i ∧ jv = .int .i64 j ∧ i ≤ j ∧ j ≤ 1000000 ∧ wr = w.drewN n ∧ Hid (Found2 (ltC cf) x A a i j B1 B2 B3)) (fun iv jv _ => (intOf jv).toNat - (intOf iv).toNat)
  case atStart => exact ⟨a, m, 0, [], A, [], rfl, rfl, HN.out.2.2.1, HN.out.2.2.2.1, rfl, by simp, rfl, HN.out.2.2.2.2.2.2, fun y hy => (by cases hy), fun y hy => (by cases hy)⟩
  case round =>
    obtain ⟨i, j, n, B1, B2, B3, rfl, rfl, hij, hj, rfl, HF⟩ := hrel
    by_cases hlt : i < j
    · have hh := half_le hlt
      obtain ⟨c, hc⟩ : ∃ c, c = (i + j) / 2 := ⟨_, rfl⟩
      rw [← hc] at hh
      have hcI : Hid _ := half_int hc
      clear hc
      obtain ⟨B4, z, B5, e2, ec, f1, f2⟩ := HF.out.step O HB.out hh
      have hBl : A.length = B1.length + (B4.length + (B5.length + 1)) + B3.length := HF.out.len e2
      have hn2 := sr_n2 HA.out.1 HA.out.2.2.1 HA.out.2.2.2.1 HA.out.2.2.2.2 hBl ec
      have ez : P ++ A ++ x :: Q = (P ++ (B1 ++ B4)) ++ z :: (B5 ++ B3 ++ x :: Q) := by rw [HF.out.eq, e2]; simp
      have kz := (HG.out.drewN n).at_mid ez (i := c) (by simp only [List.length_append]; exact hn2.1)
      have kx := (HG.out.drewN n).at_mid (A := P ++ A) (C := Q) (x := x) rfl (i := m) (by rw [List.length_append]; exact HA.out.2.1)
      have hz : ok z := HO.out z (by rw [HF.out.eq, e2]; simp)
      have hc1 := hn2.2.1
      have hc2 := hn2.2.2
      have hcz : ∀ q, Calls Tryz.prog g (#[x.val, z.val] ++ lb) ((w.drewN n).drewN q) fun e W' => e = .returned (.int .i64 (cf x z)) ∧ ∃ m, W' = ((w.drewN n).drewN q).drewN m := fun q => HC.out _ x z ((HK.out.trans (Kept.drewN _ _)).trans (Kept.drewN _ _)) HX.out hz
      have HF1 : Hid _ := f1
      have HF2 : Hid _ := f2
      have HH : Hid _ := hh
      clear f1 f2 hn2 ez hz hBl e2 ec HF hh
      obtain ⟨wq, hwq⟩ : ∃ wq, w.drewN n = wq := ⟨_, rfl⟩
      have HQ : Hid _ := hwq
      rw [hwq] at kz kx hcz ⊢
      clear hwq
      obtain ⟨xad, xcap, xxs⟩ := x
      obtain ⟨zad, zcap, zxs⟩ := z
      unfold IntsV.val at kz kx hcz
      simp only at kz kx hcz
      by_cases hlv : cf ⟨xad, xcap, xxs⟩ ⟨zad, zcap, zxs⟩ < 0
      · go_upto_region 17 with fail
        rw [hcI.out]
        go_quiet (first | (go_at_fn g; refine Calls.quiet_of (hcz _)))
        go_wp2
        go_roundw
        case rel => exact ⟨i, c, n + nq, _, _, _, rfl, rfl, HH.out.1, by have := HH.out; omega, by rw [← HQ.out, World.drewN_drewN], HF2.out (ltC_true hlv)⟩
        case measure => have := HH.out; simp [intOf]; omega
      · go_upto_region 17 with fail
        rw [hcI.out]
        go_quiet (first | (go_at_fn g; refine Calls.quiet_of (hcz _)))
        go_wp2
        go_roundw
        case rel => exact ⟨c + 1, j, n + nq, _, _, _, by go_num, rfl, HH.out.2, hj, by rw [← HQ.out, World.drewN_drewN], HF1.out (ltC_false hlv)⟩
        case measure => have := HH.out; simp [intOf]; omega
    · obtain rfl : i = j := by omega
      have h1 := HF.out.li
      have h2 := HF.out.lj
      obtain rfl : B2 = [] := List.eq_nil_of_length_eq_zero (by omega)
      have eB : A = B1 ++ B3 := by rw [HF.out.eq]; simp
      have hfin : mg (ltC cf) A [x] = B1 ++ x :: B3 := by rw [eB]; exact mg_last HF.out.lo HF.out.hi
      have HFIN : Hid _ := hfin
      have hmi : m = i + B3.length := by rw [h1, HN.out.2.2.2.2.2.2, eB, List.length_append, Nat.add_assoc]
      have hg0 : GB (w.drewN n) blk 23 (SL (P ++ B1 ++ B3 ++ x :: [] ++ Q) R) := by
        have h := HG.out.drewN n
        have e : P ++ B1 ++ B3 ++ x :: [] ++ Q = P ++ A ++ x :: Q := by rw [eB]; simp
        rw [e]; exact h
      have HG0 : Hid _ := hg0
      have HMI : Hid _ := hmi
      have HLI : Hid _ := h1
      clear HF h1 h2 eB hfin hmi hg0 hj hij hlt
      have hkw : Kept (fun b => b ≠ blk) w (w.drewN n) := Kept.drewN _ _
      have HKW : Hid _ := hkw
      clear hkw
      obtain ⟨wq, hwq⟩ : ∃ wq, w.drewN n = wq := ⟨_, rfl⟩
      rw [hwq] at HG0 HKW ⊢
      clear hwq
      go_wp2
      go_loopw [17] (fun kv wr => ∃ (k : Nat) (C1 C2 : List IntsV), kv = .int .i64 k ∧ k ≤ m ∧ Hid (B3 = C1 ++ C2 ∧ k = i + C1.length ∧ GB wr blk 23 (SL (P ++ B1 ++ C1 ++ x :: C2 ++ Q) R) ∧ Kept (fun b => b ≠ blk) w wr)) (fun kv _ => (intOf kv).toNat)
      case atStart => exact ⟨m, B3, [], rfl, Nat.le_refl _, by rw [List.append_nil], HMI.out, HG0.out, HKW.out⟩
      case round =>
        obtain ⟨k, C1, C2, rfl, hki, HJ⟩ := hrel
        obtain ⟨eC, ek, hg, hk⟩ := HJ.out
        rcases List.eq_nil_or_concat C1 with hs1 | ⟨C3, y, hs1⟩
        · subst hs1
          have eki : k = i := ek
          subst eki
          rw [List.nil_append] at eC
          subst eC
          have hF : GB wr blk 23 (SL (P ++ (B1 ++ x :: B3) ++ Q) R) ∧ Kept (fun b => b ≠ blk) w wr := by
            refine ⟨?_, hk⟩
            have e : P ++ (B1 ++ x :: B3) ++ Q = P ++ B1 ++ [] ++ x :: B3 ++ Q := by simp
            rw [e]; exact hg
          have HF : Hid _ := hF
          clear hF hg hk ek HJ
          go_wp2
          refine bodyPost_ret (results_none rfl _ _ _) rfl ?_
          exact ⟨rfl, by rw [HFIN.out]; have h := HF.out.1; first | exact h | (rw [List.append_assoc] at h; exact h), HF.out.2⟩
        · rw [List.concat_eq_append] at hs1
          subst hs1
          obtain ⟨kp, hkp⟩ : ∃ kp, k = kp + 1 := ⟨i + C3.length, by rw [ek, List.length_append]; rfl⟩
          have hn3 := sr_n3 HA.out.1 HLI.out (by rw [ek, List.length_append]; rfl) hkp hki hml HA.out.2.2.2.2
          have hn4 := sr_n4 hn3.2.2.2.2.1 hn3.2.2.1 hn3.2.2.2.2.2.2.2
          have e : P ++ B1 ++ (C3 ++ [y]) ++ x :: C2 ++ Q = (P ++ B1 ++ C3) ++ y :: [] ++ x :: (C2 ++ Q) := by simp
          have hs := hg.swapS e (i1 := kp) (i2 := kp + 1) (by simp only [List.length_append]; exact hn3.1) (by simp only [List.length_append]; exact hn3.2.1)
          subst hkp
          obtain ⟨h1, h2, h3, h4, e0, hwp⟩ := hn4
          have HN3 : Hid _ := hn3
          have HKK : Hid _ := hk
          have HEC : Hid (B3 = C3 ++ (y :: C2)) := by show B3 = _; rw [eC]; simp
          obtain ⟨k1, hk1⟩ : ∃ k1, k1 = kp + 1 := ⟨_, rfl⟩
          rw [← hk1] at hs e0
          have HK1 : Hid _ := hk1
          obtain ⟨xad, xcap, xxs⟩ := x
          obtain ⟨yad, ycap, yxs⟩ := y
          have c1 := hs.c1
          have c2 := hs.c2
          have z1 := hs.z1
          have z2 := hs.z2
          have hne := hs.ne
          have hu := hs.down
          unfold IntsV.val at c1 c2 hu
          simp only at c1 c2 hu
          have HU : Hid _ := hu
          clear hs hu hg hk ek eC HJ hn3 e hk1 hki
          go_wp2
          go_region
          have hu := HU.out
          clear HU
          generalize ((wr.setCell { block := blk, off := k1 } (Value.slice yad yxs.length ycap)).setCell { block := blk, off := kp } (Value.slice xad xxs.length xcap)).drew = wf at *
          have HU : Hid _ := hu
          clear hu
          go_wp2
          go_roundw
          case rel =>
            refine ⟨kp, C3, IntsV.mk yad ycap yxs :: C2, by first | rfl | go_num, HN3.out.2.2.2.2.2.2.1, HEC.out, HN3.out.2.2.2.2.2.1, ?_, HKK.out.trans HU.out.2⟩
            have h := HU.out.1
            have e : P ++ B1 ++ C3 ++ IntsV.mk xad xcap xxs :: (IntsV.mk yad ycap yxs :: C2) ++ Q = P ++ B1 ++ C3 ++ IntsV.mk xad xcap xxs :: [] ++ IntsV.mk yad ycap yxs :: (C2 ++ Q) := by simp
            rw [e]
            exact h
          case measure => simp [intOf]

end Go.Proofs.YtlpbelhfpoilpaaGreat

namespace Go.Scout
open Go.RowKit

/-- Where the search of a merge begins and ends. -/
structure Span (a m b mid n s0 r0 : Nat) : Prop where
  h1 : n = mid + m
  h2 : a ≤ s0 ∧ s0 ≤ r0 ∧ r0 ≤ m
  h3 : m ≤ n - r0 ∧ n - s0 ≤ b ∧ r0 ≤ n
  h4 : s0 = a ∨ n - s0 = b
  h5 : r0 = m ∨ n - r0 = m
  h6 : a ≤ mid ∧ mid ≤ b
  h7 : ∀ c, s0 ≤ c → c < r0 → a ≤ c ∧ c < m ∧ m ≤ n - 1 - c ∧ n - 1 - c < b ∧ 1 ≤ n ∧ c ≤ n - 1

theorem span_hi {a m b mid : Nat} (h1 : a < m) (h2 : m < b) (hm : mid = (a + b) / 2) (h : mid < m) : Span a m b mid (mid + m) (mid + m - b) mid := by
  refine ⟨rfl, by omega, by omega, Or.inr (by omega), Or.inr (by omega), by omega, fun c h3 h4 => by omega⟩

theorem span_lo {a m b mid : Nat} (h1 : a < m) (h2 : m < b) (hm : mid = (a + b) / 2) (h : ¬ mid < m) : Span a m b mid (mid + m) a m := by
  refine ⟨rfl, by omega, by omega, Or.inl rfl, Or.inl rfl, by omega, fun c h3 h4 => by omega⟩

/-- What is known of where a merge is parted. -/
structure Parted (lt : IntsV → IntsV → Bool) (A B : List IntsV) (a m n s0 r0 s r : Nat) : Prop where
  le : s0 ≤ s ∧ s ≤ r ∧ r ≤ r0
  lo : s = s0 ∨ lt ((B.getD (n - 1 - (s - 1) - m) iz)) (A.getD (s - 1 - a) iz) = false
  hi : r = r0 ∨ lt ((B.getD (n - 1 - r - m) iz)) (A.getD (r - a) iz) = true

/-- The four parts. -/
structure Four (lt : IntsV → IntsV → Bool) (A B A1 A2 B1 B2 : List IntsV) (a m b mid s e : Nat) : Prop where
  eA : A = A1 ++ A2
  eB : B = B1 ++ B2
  l1 : s = a + A1.length
  l2 : m = s + A2.length
  l3 : e = m + B1.length
  l4 : b = e + B2.length
  l5 : mid = a + A1.length + B1.length
  c1 : ∀ y ∈ B1, ∀ x ∈ A2, lt y x = true
  c2 : ∀ y ∈ B2, ∀ x ∈ A1, lt y x = false

theorem getD_mid {A1 A2 : List IntsV} {x : IntsV} : (A1 ++ x :: A2).getD A1.length iz = x := by simp [List.getD]
theorem getD_eq {L A1 A2 : List IntsV} {x : IntsV} {i : Nat} (e : L = A1 ++ x :: A2) (h : i = A1.length) : L.getD i iz = x := by rw [e, h]; exact getD_mid

theorem Parted.four {lt : IntsV → IntsV → Bool} (O : Ahead lt) {A B : List IntsV} {a m b mid n s0 r0 s : Nat} (S : Span a m b mid n s0 r0) (h : Parted lt A B a m n s0 r0 s s) (hA : InRow lt A) (hB : InRow lt B) (hm : m = a + A.length) (hb : b = m + B.length) :
    ∃ A1 A2 B1 B2, Four lt A B A1 A2 B1 B2 a m b mid s (n - s) := by
  have s1 := S.h1
  have s2 := S.h2
  have s3 := S.h3
  have s6 := S.h6
  have hle := h.le
  obtain ⟨A1, A2, eA, lA1, lA2⟩ := split_at A (s - a) (by omega)
  obtain ⟨B1, B2, eB, lB1, lB2⟩ := split_at B (n - s - m) (by omega)
  refine ⟨A1, A2, B1, B2, eA, eB, by omega, by omega, by omega, by omega, by omega, ?_, ?_⟩
  · intro y hy x hx
    rcases List.eq_nil_or_concat B1 with hb1 | ⟨B3, z, hb1⟩
    · rw [hb1] at hy; cases hy
    · rw [List.concat_eq_append] at hb1
      cases hA2 : A2 with
      | nil => rw [hA2] at hx; cases hx
      | cons v A3 =>
        have l1 : B1.length = B3.length + 1 := by rw [hb1]; simp
        have l2 : A2.length = A3.length + 1 := by rw [hA2]; rfl
        have hv : lt z v = true := by
          rcases h.hi with h | h
          · exfalso
            rcases S.h5 with h5 | h5 <;> omega
          · have e1 : B.getD (n - 1 - s - m) iz = z := getD_eq (A1 := B3) (A2 := B2) (by rw [eB, hb1]; simp) (by omega)
            have e2 : A.getD (s - a) iz = v := getD_eq (A1 := A1) (A2 := A3) (by rw [eA, hA2]) (by omega)
            rw [e1, e2] at h
            exact h
        have hy1 : lt y v = true := by
          rw [hb1] at hy
          rcases List.mem_append.1 hy with hy | hy
          · exact row_less O (B4 := B3) (B5 := B2) (by rw [eB, hb1] at hB; simpa using hB) hv y hy
          · rw [List.mem_singleton] at hy; rw [hy]; exact hv
        rw [hA2] at hx
        rcases List.mem_cons.1 hx with hx | hx
        · rw [hx]; exact hy1
        · exact row_more' O (B4 := A1) (B5 := A3) (by rw [eA, hA2] at hA; exact hA) hy1 x hx
  · intro y hy x hx
    rcases List.eq_nil_or_concat A1 with ha1 | ⟨A3, z, ha1⟩
    · rw [ha1] at hx; cases hx
    · rw [List.concat_eq_append] at ha1
      cases hB2 : B2 with
      | nil => rw [hB2] at hy; cases hy
      | cons v B3 =>
        have l1 : A1.length = A3.length + 1 := by rw [ha1]; simp
        have l2 : B2.length = B3.length + 1 := by rw [hB2]; rfl
        have hv : lt v z = false := by
          rcases h.lo with h | h
          · exfalso
            rcases S.h4 with h4 | h4 <;> omega
          · have e1 : B.getD (n - 1 - (s - 1) - m) iz = v := getD_eq (A1 := B1) (A2 := B3) (by rw [eB, hB2]) (by omega)
            have e2 : A.getD (s - 1 - a) iz = z := getD_eq (A1 := A3) (A2 := A2) (by rw [eA, ha1]; simp) (by omega)
            rw [e1, e2] at h
            exact h
        have hy1 : lt y z = false := by
          rw [hB2] at hy
          rcases List.mem_cons.1 hy with hy | hy
          · rw [hy]; exact hv
          · exact row_more O (B4 := B1) (B5 := B3) (by rw [eB, hB2] at hB; exact hB) hv y hy
        rw [ha1] at hx
        rcases List.mem_append.1 hx with hx | hx
        · exact row_less' O (B4 := A3) (B5 := A2) (by rw [eA, ha1] at hA; simpa using hA) hy1 x hx
        · rw [List.mem_singleton] at hx; rw [hx]; exact hy1

theorem Four.mg {lt : IntsV → IntsV → Bool} {A B A1 A2 B1 B2 : List IntsV} {a m b mid s e : Nat} (h : Four lt A B A1 A2 B1 B2 a m b mid s e) (hB : InRow lt B) : mg lt A B = mg lt A1 B1 ++ mg lt A2 B2 := by
  rw [h.eA, h.eB]
  rw [h.eB] at hB
  unfold InRow at hB
  rw [List.pairwise_append] at hB
  exact mg_split h.c1 h.c2 (fun b hb a ha => hB.2.2 a ha b hb)

theorem mg_empty {lt : IntsV → IntsV → Bool} {A B : List IntsV} (hA : InRow lt A) (hB : InRow lt B) (h : A.length = 0 ∨ B.length = 0) : mg lt A B = A ++ B := by
  rcases h with h | h
  · rw [List.eq_nil_of_length_eq_zero h]
    exact mg_row hB (fun _ _ _ h => by cases h)
  · rw [List.eq_nil_of_length_eq_zero h, List.append_nil]
    rfl

theorem Four.rows {lt : IntsV → IntsV → Bool} {A B A1 A2 B1 B2 : List IntsV} {a m b mid s e : Nat} (h : Four lt A B A1 A2 B1 B2 a m b mid s e) (hA : InRow lt A) (hB : InRow lt B) : InRow lt A1 ∧ InRow lt A2 ∧ InRow lt B1 ∧ InRow lt B2 := by
  rw [h.eA] at hA
  rw [h.eB] at hB
  unfold InRow at *
  rw [List.pairwise_append] at hA hB
  exact ⟨hA.1, hA.2.1, hB.1, hB.2.1⟩

theorem Parted.step {lt : IntsV → IntsV → Bool} {A B : List IntsV} {a m n s0 r0 s r c : Nat} (h : Parted lt A B a m n s0 r0 s r) (hc : s ≤ c ∧ c < r) :
    (lt (B.getD (n - 1 - c - m) iz) (A.getD (c - a) iz) = false → Parted lt A B a m n s0 r0 (c + 1) r) ∧ (lt (B.getD (n - 1 - c - m) iz) (A.getD (c - a) iz) = true → Parted lt A B a m n s0 r0 s c) := by
  have hle := h.le
  refine ⟨fun hv => ⟨by omega, Or.inr ?_, h.hi⟩, fun hv => ⟨by omega, h.lo, Or.inr hv⟩⟩
  rw [Nat.add_sub_cancel]
  exact hv

end Go.Scout

namespace Go.Scout
open Go.RowKit

theorem sg_n1 {a m b p la lb len mid : Nat} (ha : a = p) (hm : m = p + la) (hb : b = p + la + lb) (hlen : b ≤ len) (hl : len ≤ 1000000) (h1 : 2 ≤ la) (h2 : 2 ≤ lb) (hmid : mid = (a + b) / 2) :
    wrap64 ((m : Int) - (a : Int)) = (la : Int) ∧ wrap64 ((b : Int) - (m : Int)) = (lb : Int) ∧ ((la : Int) == 1) = false ∧ ((lb : Int) == 1) = false ∧ wrap64 ((mid : Int) + (m : Int)) = ((mid + m : Nat) : Int) ∧ a < m ∧ m < b ∧ m = a + la ∧ b = m + lb ∧ mid + m ≤ 4000000 ∧ a ≤ 1000000 ∧ b ≤ 1000000 ∧ m ≤ 1000000 := by
  have e1 : ¬ (la : Int) = 1 := by omega
  have e2 : ¬ (lb : Int) = 1 := by omega
  refine ⟨by unfold wrap64; omega, by unfold wrap64; omega, by simpa using e1, by simpa using e2, by unfold wrap64; omega, by omega, by omega, by omega, by omega, by omega, by omega, by omega, by omega⟩
theorem sg_n8 {a m b p la lb : Nat} (ha : a = p) (hm : m = p + la) (hb : b = p + la + lb) (h1 : 2 ≤ la) (h2 : 2 ≤ lb) : a + 2 ≤ m ∧ m + 2 ≤ b := by omega
theorem sg_n2 {n b : Nat} (h : b ≤ n) (hl : n ≤ 4000000) : wrap64 ((n : Int) - (b : Int)) = ((n - b : Nat) : Int) := by unfold wrap64; omega
theorem sg_n3 {n : Nat} (h : 1 ≤ n) (hl : n ≤ 4000000) : wrap64 ((n : Int) - 1) = ((n - 1 : Nat) : Int) := by unfold wrap64; omega
theorem sg_n4 {a m b mid n s0 r0 : Nat} (S : Span a m b mid n s0 r0) (hl : n ≤ 4000000) (hm : m ≤ 1000000) (h : a < m) : 1 ≤ n ∧ s0 ≤ 1000000 ∧ r0 ≤ 1000000 ∧ s0 ≤ r0 := by
  have h1 := S.h1
  have h2 := S.h2
  omega
theorem sg_n5 {mid m b : Nat} (h : mid < m) (hb : m < b) (hm : b ≤ mid + m) : b ≤ mid + m := hm
theorem sg_n6 {a m b mid : Nat} (h1 : a < m) (h2 : m < b) (hm : mid = (a + b) / 2) (h : mid < m) : b ≤ mid + m := by omega
/-- The element of B and that of A that are held against each other. -/
theorem sg_at {A B P Q : List IntsV} {a m b n c : Nat} (ha : a = P.length) (hm : m = a + A.length) (hb : b = m + B.length) (h : a ≤ c ∧ c < m ∧ m ≤ n - 1 - c ∧ n - 1 - c < b ∧ 1 ≤ n ∧ c ≤ n - 1) :
    (∃ L1 L2, P ++ A ++ B ++ Q = L1 ++ A.getD (c - a) iz :: L2 ∧ c = L1.length) ∧ (∃ L1 L2, P ++ A ++ B ++ Q = L1 ++ B.getD (n - 1 - c - m) iz :: L2 ∧ n - 1 - c = L1.length) ∧ A.getD (c - a) iz ∈ A ∧ B.getD (n - 1 - c - m) iz ∈ B := by
  obtain ⟨A1, A2, eA, lA, lA2⟩ := split_at A (c - a) (by omega)
  obtain ⟨B1, B2, eB, lB, lB2⟩ := split_at B (n - 1 - c - m) (by omega)
  cases A2 with
  | nil => simp at lA2; omega
  | cons x A3 =>
    cases B2 with
    | nil => simp at lB2; omega
    | cons y B3 =>
      have e1 : A.getD (c - a) iz = x := getD_eq eA lA.symm
      have e2 : B.getD (n - 1 - c - m) iz = y := getD_eq eB lB.symm
      rw [e1, e2]
      refine ⟨⟨P ++ A1, A3 ++ B ++ Q, by rw [eA]; simp, by rw [List.length_append]; omega⟩, ⟨P ++ A ++ B1, B3 ++ Q, by rw [eB]; simp, by simp only [List.length_append]; omega⟩, by rw [eA]; simp, by rw [eB]; simp⟩
theorem sg_n7 {n c m b len : Nat} (h : c < m ∧ n - 1 - c < b ∧ c ≤ n - 1) (hmb : m < b) (hlen : b ≤ len) (hl : len ≤ 1000000) (hn : n ≤ 4000000) : c < len ∧ n - 1 - c < len ∧ wrap64 (((n - 1 : Nat) : Int) - (c : Int)) = ((n - 1 - c : Nat) : Int) ∧ c + 1 ≤ 1000000 := by
  refine ⟨by omega, by omega, by unfold wrap64; omega, by omega⟩

theorem sg_n9 {np c e n m b len : Nat} (hn : n = np + 1) (he : e = n - 1 - c) (h : c < m ∧ n - 1 - c < b ∧ c ≤ n - 1) (hmb : m < b) (hlen : b ≤ len) (hl : len ≤ 1000000) : (np : Int) - (c : Int) = (e : Int) ∧ c < len ∧ e < len ∧ c + 1 ≤ 1000000 ∧ wrap64 ((np : Int) - (c : Int)) = (e : Int) := by
  refine ⟨by omega, by omega, by omega, by omega, by unfold wrap64; omega⟩
theorem sg_m1 {a m b mid n s0 r0 s r c : Nat} (S : Span a m b mid n s0 r0) (h1 : s0 ≤ s ∧ s ≤ r ∧ r ≤ r0) (h2 : s ≤ c ∧ c < r) : a ≤ c ∧ c < m ∧ m ≤ n - 1 - c ∧ n - 1 - c < b ∧ 1 ≤ n ∧ c ≤ n - 1 := S.h7 c (by omega) (by omega)
theorem sg_m2 {a m b mid n s0 r0 s np : Nat} (S : Span a m b mid n s0 r0) (h1 : s0 ≤ s ∧ s ≤ s ∧ s ≤ r0) (hn : n = np + 1) (hl : n ≤ 4000000) : s ≤ n ∧ wrap64 ((n : Int) - (s : Int)) = ((n - s : Nat) : Int) ∧ (n : Int) - (s : Int) = ((n - s : Nat) : Int) := by
  have h3 := S.h3
  refine ⟨by omega, by unfold wrap64; omega, by omega⟩

theorem dec_lt {a b : Nat} (h : ¬ a < b) : decide ((a : Int) < (b : Int)) = false := decide_eq_false (by omega)
theorem nat_pred {n : Nat} (h : 1 ≤ n) : n = n - 1 + 1 := by omega
theorem nat_eq {s r : Nat} (h1 : s ≤ r) (h2 : ¬ s < r) : s = r := by omega
theorem nat_le3 {c r k : Nat} (h : c < r) (h2 : r ≤ k) : c ≤ k := by omega
theorem or_zero {x y : Nat} (h : ¬ (0 < x ∧ 0 < y)) : x = 0 ∨ y = 0 := by omega
theorem zero_r {x y : Nat} (h : ¬ (0 < x ∧ 0 < y)) (h0 : 0 < x) : y = 0 := by omega
theorem zero_l {x : Nat} (h0 : ¬ 0 < x) : x = 0 := by omega
theorem meas_a {s c r : Nat} (h : s ≤ c ∧ c < r) : c - s < r - s := by omega
theorem meas_b {s c r : Nat} (h : s ≤ c ∧ c < r) : r - (c + 1) < r - s := by omega
structure FourN (P A1 A2 B1 B2 : List IntsV) (a m b mid s e N len : Nat) : Prop where
  t1 : s < m ↔ 0 < A2.length
  t2 : m < e ↔ 0 < B1.length
  t3 : a < s ↔ 0 < A1.length
  t4 : s < mid ↔ 0 < B1.length
  t5 : mid < e ↔ 0 < A2.length
  t6 : e < b ↔ 0 < B2.length
  n1 : A1.length + B1.length ≤ N
  n2 : A2.length + B2.length ≤ N
  q1 : s = P.length + A1.length
  q2 : m = P.length + A1.length + A2.length
  q3 : e = P.length + A1.length + A2.length + B1.length
  q4 : mid = P.length + A1.length + B1.length
  q5 : e ≤ len ∧ mid ≤ len ∧ e ≤ 1000000
  q6 : e = P.length + (A1.length + B1.length) + A2.length
  q7 : b = P.length + (A1.length + B1.length) + A2.length + B2.length
  q8 : mid = P.length + (A1.length + B1.length)

theorem four_n {lt : IntsV → IntsV → Bool} {P A B A1 A2 B1 B2 : List IntsV} {a m b mid s e N len : Nat} (h : Four lt A B A1 A2 B1 B2 a m b mid s e) (ha : a = P.length) (hm : m = a + A.length) (hb : b = m + B.length) (h2 : a + 2 ≤ m) (h3 : m + 2 ≤ b) (hmid : mid = (a + b) / 2) (hN : A.length + B.length ≤ N + 1) (hlen : b ≤ len) (hl : len ≤ 1000000) : FourN P A1 A2 B1 B2 a m b mid s e N len := by
  have l1 := h.l1
  have l2 := h.l2
  have l3 := h.l3
  have l4 := h.l4
  have l5 := h.l5
  refine ⟨by omega, by omega, by omega, by omega, by omega, by omega, by omega, by omega, by omega, by omega, by omega, by omega, by omega, by omega, by omega, by omega⟩

end Go.Scout
namespace Go.Proofs.YtlpbelhfpoilpaaGreat
open Go.RowKit Go.Scout

def MergeOk (N : Nat) : Prop :=
  ∀ (blk cap len a m b g : Nat) (lb : Array Value) (cf : IntsV → IntsV → Int) (ok : IntsV → Prop) (w0 : World) (_ : Cmps Tryz.prog g lb cf blk w0 ok) (_ : ∀ args w, (callFunc g args).run Tryz.prog w = .ok (.enter g args) w) (_ : Ahead (ltC cf))
    (P A B Q : List IntsV) (R : List Value) (w : World) (_ : GB w blk 23 (SL (P ++ A ++ B ++ Q) R)) (_ : InRow (ltC cf) A) (_ : InRow (ltC cf) B) (_ : ∀ y ∈ A, ok y) (_ : ∀ y ∈ B, ok y) (_ : Kept (fun b => b ≠ blk) w0 w) (_ : a = P.length) (_ : m = P.length + A.length) (_ : b = P.length + A.length + B.length) (_ : b ≤ len) (_ : len ≤ 1000000) (_ : 0 < A.length) (_ : 0 < B.length) (_ : A.length + B.length ≤ N),
    Calls Tryz.prog 110 #[.slice (some ⟨blk, 0, none⟩) len cap, .int .i64 a, .int .i64 m, .int .i64 b, .func (.func g) #[] lb] w fun e w' => e = .returned (.tuple #[]) ∧ GB w' blk 23 (SL (P ++ mg (ltC cf) A B ++ Q) R) ∧ Kept (fun b => b ≠ blk) w w'

set_option maxRecDepth 20000 in
set_option maxHeartbeats 4000000 in
theorem symGen_any (N : Nat) (ih : MergeOk N) (blk cap len a m b g : Nat) (lb : Array Value) (cf : IntsV → IntsV → Int) (ok : IntsV → Prop) (w0 : World) (hC : Cmps Tryz.prog g lb cf blk w0 ok) (eg : ∀ args w, (callFunc g args).run Tryz.prog w = .ok (.enter g args) w) (O : Ahead (ltC cf))
    (P A B Q : List IntsV) (R : List Value) (w : World) (hG : GB w blk 23 (SL (P ++ A ++ B ++ Q) R)) (hA : InRow (ltC cf) A) (hB : InRow (ltC cf) B) (hoA : ∀ y ∈ A, ok y) (hoB : ∀ y ∈ B, ok y) (hK : Kept (fun b => b ≠ blk) w0 w) (ha : a = P.length) (hm : m = P.length + A.length) (hb : b = P.length + A.length + B.length) (hlen : b ≤ len) (hl : len ≤ 1000000) (h1 : 2 ≤ A.length) (h2 : 2 ≤ B.length) (hN : A.length + B.length ≤ N + 1) :
    Calls Tryz.prog 110 #[.slice (some ⟨blk, 0, none⟩) len cap, .int .i64 a, .int .i64 m, .int .i64 b, .func (.func g) #[] lb] w fun e w' => e = .returned (.tuple #[]) ∧ GB w' blk 23 (SL (P ++ mg (ltC cf) A B ++ Q) R) ∧ Kept (fun b => b ≠ blk) w w' := by
  obtain ⟨mid, hmid⟩ : ∃ mid, mid = (a + b) / 2 := ⟨_, rfl⟩
  have hmI : Hid _ := half_int hmid
  obtain ⟨hw1, hw2, hq1, hq2, hw3, ham, hmb, hma, hbm, hn4, ha6, hb6, hm6⟩ := sg_n1 ha hm hb hlen hl h1 h2 hmid
  obtain ⟨ham2, hmb2⟩ := sg_n8 ha hm hb h1 h2
  have HG : Hid (GB w blk 23 (SL (P ++ A ++ B ++ Q) R)) := hG
  have HC : Hid _ := hC
  have HOA : Hid _ := hoA
  have HOB : Hid _ := hoB
  have HA : Hid _ := hA
  have HB : Hid _ := hB
  have HK : Hid _ := hK
  have HL : Hid _ := And.intro ha (And.intro hma (And.intro hbm (And.intro hlen (And.intro hl (And.intro hN hmid)))))
  have IH : Hid _ := ih
  obtain ⟨la, hla⟩ : ∃ la, A.length = la := ⟨_, rfl⟩
  obtain ⟨l2, hl2⟩ : ∃ l2, B.length = l2 := ⟨_, rfl⟩
  rw [hla] at hw1 hq1 h1
  rw [hl2] at hw2 hq2 h2
  clear hG hC hoA hoB hA hB hK ha hm hb hlen hN ih hmid hma hbm hla hl2
  go_enter Tryz.func110, Tryz.ntmps110
  go_upto_region 25 with fail
  rw [hmI.out]
  clear hmI
  obtain ⟨n, hn⟩ : ∃ n, n = mid + m := ⟨_, rfl⟩
  rw [← hn] at hw3 hn4
  have HN : Hid _ := hn
  clear hn
  go_upto_if 140 with fail
  go_cut [20, 21] from 25 to 146 (fun s r wx => ∃ s0 r0 : Nat, s = .int .i64 s0 ∧ r = .int .i64 r0 ∧ w = wx ∧ Hid (Span a m b mid n s0 r0))
  case first =>
    by_cases hmm : mid < m
    · have hw4 : wrap64 ((n : Int) - (b : Int)) = ((n - b : Nat) : Int) := sg_n2 (by rw [HN.out]; exact sg_n6 ham hmb HL.out.2.2.2.2.2.2 hmm) hn4
      have HS : Hid (Span a m b mid n (n - b) mid) := by show Span _ _ _ _ _ _ _; rw [HN.out]; exact span_hi ham hmb HL.out.2.2.2.2.2.2 hmm
      go_wp2_with fail
      go_meet
      exact ⟨n - b, mid, cast_sub (by rw [HN.out]; exact sg_n6 ham hmb HL.out.2.2.2.2.2.2 hmm), rfl, rfl, HS.out⟩
    · have HS : Hid (Span a m b mid n a m) := by show Span _ _ _ _ _ _ _; rw [HN.out]; exact span_lo ham hmb HL.out.2.2.2.2.2.2 hmm
      go_wp2_with fail
      go_meet
      exact ⟨a, m, rfl, rfl, rfl, HS.out⟩
  case rest =>
  obtain ⟨s0, r0, rfl, rfl, rfl, HS⟩ := hcut
  have hn1 := sg_n4 HS.out hn4 hm6 ham
  obtain ⟨np, hnp⟩ : ∃ np, n = np + 1 := ⟨n - 1, nat_pred hn1.1⟩
  rw [hw3]
  clear hw3
  subst hnp
  have hcast : ((np + 1 : Nat) : Int) = (np : Int) + 1 := rfl
  rw [hcast]
  clear hcast
  obtain ⟨-, hs6, hr6, hsr⟩ := hn1
  go_wp2
  go_loopw [20, 21] (fun sv rv wr => ∃ s r k : Nat, sv = .int .i64 s ∧ rv = .int .i64 r ∧ s ≤ r ∧ r ≤ 1000000 ∧ wr = w.drewN k ∧ Hid (Parted (ltC cf) A B a m (np + 1) s0 r0 s r)) (fun sv rv _ => (intOf rv).toNat - (intOf sv).toNat)
  case atStart => exact ⟨s0, r0, 0, rfl, rfl, hsr, hr6, rfl, ⟨⟨Nat.le_refl _, hsr, Nat.le_refl _⟩, Or.inl rfl, Or.inl rfl⟩⟩
  case round =>
    obtain ⟨s, r, k, rfl, rfl, hle, hr, rfl, HP⟩ := hrel
    by_cases hlt : s < r
    · have hh := half_le hlt
      obtain ⟨c, hc⟩ : ∃ c, c = (s + r) / 2 := ⟨_, rfl⟩
      rw [← hc] at hh
      have hcI : Hid _ := half_int hc
      clear hc
      have h7 := sg_m1 HS.out HP.out.le hh
      obtain ⟨⟨L1, L2, eL, lL⟩, ⟨M1, M2, eM, lM⟩, mA, mB⟩ := sg_at (P := P) (Q := Q) HL.out.1 HL.out.2.1 HL.out.2.2.1 h7
      have kx := (HG.out.drewN k).at_mid eL lL
      have ky := (HG.out.drewN k).at_mid eM lM
      have hst := HP.out.step hh
      have hx : ok _ := HOA.out _ mA
      have hy : ok _ := HOB.out _ mB
      obtain ⟨e, he⟩ : ∃ e, e = np + 1 - 1 - c := ⟨_, rfl⟩
      have hn9 := sg_n9 rfl he ⟨h7.2.1, h7.2.2.2.1, h7.2.2.2.2.2⟩ hmb HL.out.2.2.2.1 hl
      generalize A.getD (c - a) iz = x at *
      generalize B.getD (np + 1 - 1 - c - m) iz = y at *
      rw [← he] at ky
      have hcz : ∀ q, Calls Tryz.prog g (#[y.val, x.val] ++ lb) ((w.drewN k).drewN q) fun e W' => e = .returned (.int .i64 (cf y x)) ∧ ∃ m, W' = ((w.drewN k).drewN q).drewN m := fun q => HC.out _ y x ((HK.out.trans (Kept.drewN _ _)).trans (Kept.drewN _ _)) hy hx
      obtain ⟨hd1, hc1, hc2, hc3, hd2⟩ := hn9
      have HST : Hid _ := hst
      have HH : Hid _ := hh
      clear hst hh h7 eL lL eM lM mA mB hx hy he HP L1 L2 M1 M2
      obtain ⟨wq, hwq⟩ : ∃ wq, w.drewN k = wq := ⟨_, rfl⟩
      have HQ : Hid _ := hwq
      rw [hwq] at kx ky hcz ⊢
      clear hwq
      obtain ⟨xad, xcap, xxs⟩ := x
      obtain ⟨yad, ycap, yxs⟩ := y
      unfold IntsV.val at kx ky hcz
      simp only at kx ky hcz
      by_cases hlv : cf ⟨yad, ycap, yxs⟩ ⟨xad, xcap, xxs⟩ < 0
      · go_upto_region 35 with fail
        rw [hcI.out]
        go_quiet (first | (go_at_fn g; refine Calls.quiet_of (hcz _)))
        go_wp2
        go_roundw
        case rel => exact ⟨s, c, k + nq, rfl, rfl, HH.out.1, nat_le3 HH.out.2 hr, by rw [← HQ.out, World.drewN_drewN], HST.out.2 (ltC_true hlv)⟩
        case measure =>
          simp only [intOf, Int.toNat_natCast]
          exact meas_a HH.out
      · go_upto_region 35 with fail
        rw [hcI.out]
        go_quiet (first | (go_at_fn g; refine Calls.quiet_of (hcz _)))
        go_wp2
        go_roundw
        case rel => exact ⟨c + 1, r, k + nq, rfl, rfl, HH.out.2, hr, by rw [← HQ.out, World.drewN_drewN], HST.out.1 (ltC_false hlv)⟩
        case measure =>
          have ec : (c : Int) + 1 = ((c + 1 : Nat) : Int) := rfl
          simp only [intOf, ec, Int.toNat_natCast]
          exact meas_b HH.out
    · obtain rfl : s = r := nat_eq hle hlt
      obtain ⟨A1, A2, B1, B2, hF⟩ := HP.out.four O HS.out HA.out HB.out HL.out.2.1 HL.out.2.2.1
      have hm2 := sg_m2 HS.out HP.out.le rfl hn4
      have hmg := hF.mg HB.out
      have hrw := hF.rows HA.out HB.out
      obtain ⟨en, hen0⟩ : ∃ en, en = np + 1 - s := ⟨_, rfl⟩
      rw [← hen0] at hF hm2
      have hn4' := four_n (P := P) hF HL.out.1 HL.out.2.1 HL.out.2.2.1 ham2 hmb2 HL.out.2.2.2.2.2.2 HL.out.2.2.2.2.2.1 HL.out.2.2.2.1 hl
      have hen : (np : Int) + 1 - (s : Int) = (en : Int) := hm2.2.2
      have hg0 : GB (w.drewN k) blk 23 (SL (P ++ A1 ++ A2 ++ B1 ++ (B2 ++ Q)) R) := by
        have h := HG.out.drewN k
        have e : P ++ A1 ++ A2 ++ B1 ++ (B2 ++ Q) = P ++ A ++ B ++ Q := by rw [hF.eA, hF.eB]; simp
        rw [e]; exact h
      have hok1 : (∀ y ∈ A1, ok y) ∧ (∀ y ∈ A2, ok y) ∧ (∀ y ∈ B1, ok y) ∧ (∀ y ∈ B2, ok y) := ⟨fun y hy => HOA.out y (by rw [hF.eA]; exact List.mem_append.2 (Or.inl hy)), fun y hy => HOA.out y (by rw [hF.eA]; exact List.mem_append.2 (Or.inr hy)), fun y hy => HOB.out y (by rw [hF.eB]; exact List.mem_append.2 (Or.inl hy)), fun y hy => HOB.out y (by rw [hF.eB]; exact List.mem_append.2 (Or.inr hy))⟩
      have hkw : Kept (fun b => b ≠ blk) w (w.drewN k) := Kept.drewN _ _
      have hsn := hm2.1
      have HG0 : Hid _ := hg0
      have HKW : Hid _ := hkw
      have HOK : Hid _ := hok1
      have HMG : Hid _ := hmg
      have HRW : Hid _ := hrw
      have FN : Hid _ := hn4'
      have hen6 : en ≤ 1000000 := hn4'.q5.2.2
      clear hg0 hkw hok1 hmg hrw hn4' hF HP HS hm2 hen0 hle hlt HG HOA HOB
      obtain ⟨wq, hwq⟩ : ∃ wq, w.drewN k = wq := ⟨_, rfl⟩
      rw [hwq] at HG0 HKW ⊢
      clear hwq
      go_upto_region 39 with fail
      try rw [hen]
      clear hen hsn
      go_cut [185] from 178 to 185 (fun v wx => v = .bool (decide (0 < A2.length ∧ 0 < B1.length)) ∧ wq = wx)
      case first =>
        by_cases hx : s < m
        · by_cases hy : m < en
          · have HT : Hid (decide (0 < A2.length ∧ 0 < B1.length) = true) := decide_eq_true ⟨FN.out.t1.1 hx, FN.out.t2.1 hy⟩
            go_wp2_with fail
            go_meet
            exact ⟨by rw [HT.out], rfl⟩
          · have HT : Hid (decide (0 < A2.length ∧ 0 < B1.length) = false) := decide_eq_false (fun h => hy (FN.out.t2.2 h.2))
            have hyd : decide ((m : Int) < (en : Int)) = false := dec_lt (by assumption)
            go_wp2_with fail
            go_meet
            exact ⟨by rw [HT.out], rfl⟩
        · have HT : Hid (decide (0 < A2.length ∧ 0 < B1.length) = false) := decide_eq_false (fun h => hx (FN.out.t1.2 h.1))
          have hxd : decide ((s : Int) < (m : Int)) = false := dec_lt (by assumption)
          go_wp2_with fail
          go_meet
          exact ⟨by rw [HT.out], rfl⟩
      case rest =>
      obtain ⟨rfl, rfl⟩ := hcut
      go_upto_if 185 with fail
      go_cut [] from 185 to 191 (fun wx => Hid (GB wx blk 23 (SL (P ++ A1 ++ B1 ++ (A2 ++ B2 ++ Q)) R) ∧ Kept (fun b => b ≠ blk) w wx))
      case first =>
        by_cases hxy : 0 < A2.length ∧ 0 < B1.length
        · have hrot := rotate_any blk cap len s m en (.func (.func g) #[] lb) (P ++ A1) A2 B1 (B2 ++ Q) R wq HG0.out hxy.1 hxy.2 (by rw [List.length_append]; exact FN.out.q1) (by rw [List.length_append]; exact FN.out.q2) (by rw [List.length_append]; exact FN.out.q3) FN.out.q5.1 hl
          rw [decide_eq_true hxy]
          clear hxy
          go_wp2_with fail
          refine hrot.mono ?_
          rintro e w2 ⟨rfl, hg2, hk2⟩
          clear hrot
          have HG2 : Hid _ := hg2
          have HK2 : Hid _ := hk2
          clear hg2 hk2
          go_wp2_with fail
          go_meet
          refine ⟨?_, HKW.out.trans HK2.out⟩
          have e : P ++ A1 ++ B1 ++ (A2 ++ B2 ++ Q) = P ++ A1 ++ B1 ++ A2 ++ (B2 ++ Q) := by simp
          rw [e]
          exact HG2.out
        · rw [decide_eq_false hxy]
          have HE : Hid (P ++ A1 ++ B1 ++ (A2 ++ B2 ++ Q) = P ++ A1 ++ A2 ++ B1 ++ (B2 ++ Q)) := by
            show _ = _
            by_cases h0 : 0 < A2.length
            · have h1 : B1 = [] := List.eq_nil_of_length_eq_zero (zero_r hxy h0)
              rw [h1]; simp
            · have h1 : A2 = [] := List.eq_nil_of_length_eq_zero (zero_l h0)
              rw [h1]; simp
          clear hxy
          go_wp2_with fail
          go_meet
          refine ⟨?_, HKW.out⟩
          rw [HE.out]
          exact HG0.out
      case rest =>
      have HG1 : Hid _ := hcut.out.1
      have HK1 : Hid _ := hcut.out.2
      clear hcut HG0 HKW
      go_upto_region 41 with fail
      go_cut [199] from 192 to 199 (fun v wx => v = .bool (decide (0 < A1.length ∧ 0 < B1.length)) ∧ wc = wx)
      case first =>
        by_cases hx : a < s
        · by_cases hy : s < mid
          · have HT : Hid (decide (0 < A1.length ∧ 0 < B1.length) = true) := decide_eq_true ⟨FN.out.t3.1 hx, FN.out.t4.1 hy⟩
            go_wp2_with fail
            go_meet
            exact ⟨by rw [HT.out], rfl⟩
          · have HT : Hid (decide (0 < A1.length ∧ 0 < B1.length) = false) := decide_eq_false (fun h => hy (FN.out.t4.2 h.2))
            have hyd : decide ((s : Int) < (mid : Int)) = false := dec_lt (by assumption)
            go_wp2_with fail
            go_meet
            exact ⟨by rw [HT.out], rfl⟩
        · have HT : Hid (decide (0 < A1.length ∧ 0 < B1.length) = false) := decide_eq_false (fun h => hx (FN.out.t3.2 h.1))
          have hxd : decide ((a : Int) < (s : Int)) = false := dec_lt (by assumption)
          go_wp2_with fail
          go_meet
          exact ⟨by rw [HT.out], rfl⟩
      case rest =>
      obtain ⟨rfl, rfl⟩ := hcut
      go_upto_if 199 with fail
      go_cut [] from 199 to 205 (fun wx => Hid (GB wx blk 23 (SL (P ++ mg (ltC cf) A1 B1 ++ A2 ++ B2 ++ Q) R) ∧ Kept (fun b => b ≠ blk) w wx))
      case first =>
        by_cases hxy : 0 < A1.length ∧ 0 < B1.length
        · have hsy := IH.out blk cap len a s mid g lb cf ok w0 HC.out eg O P A1 B1 (A2 ++ B2 ++ Q) R wc HG1.out HRW.out.1 HRW.out.2.2.1 HOK.out.1 HOK.out.2.2.1 (HK.out.trans HK1.out) HL.out.1 FN.out.q1 FN.out.q4 FN.out.q5.2.1 hl hxy.1 hxy.2 FN.out.n1
          rw [decide_eq_true hxy]
          clear hxy
          go_wp2_with fail
          refine hsy.mono ?_
          rintro e w2 ⟨rfl, hg2, hk2⟩
          clear hsy
          have HG2 : Hid _ := hg2
          have HK2 : Hid _ := hk2
          clear hg2 hk2
          go_wp2_with fail
          go_meet
          refine ⟨?_, HK1.out.trans HK2.out⟩
          have e : P ++ mg (ltC cf) A1 B1 ++ A2 ++ B2 ++ Q = P ++ mg (ltC cf) A1 B1 ++ (A2 ++ B2 ++ Q) := by simp
          rw [e]
          exact HG2.out
        · rw [decide_eq_false hxy]
          have HE : Hid (P ++ mg (ltC cf) A1 B1 ++ A2 ++ B2 ++ Q = P ++ A1 ++ B1 ++ (A2 ++ B2 ++ Q)) := by
            show _ = _
            rw [mg_empty HRW.out.1 HRW.out.2.2.1 (or_zero hxy)]
            simp
          clear hxy
          go_wp2_with fail
          go_meet
          refine ⟨?_, HK1.out⟩
          rw [HE.out]
          exact HG1.out
      case rest =>
      have HG2 : Hid _ := hcut.out.1
      have HK2 : Hid _ := hcut.out.2
      clear hcut HG1 HK1
      have hfin : P ++ mg (ltC cf) A B ++ Q = P ++ mg (ltC cf) A1 B1 ++ mg (ltC cf) A2 B2 ++ Q := by rw [HMG.out]; simp
      have HFIN : Hid _ := hfin
      clear hfin
      by_cases hxy : 0 < A2.length ∧ 0 < B2.length
      · have hx : mid < en := FN.out.t5.2 hxy.1
        have hy : en < b := FN.out.t6.2 hxy.2
        have hsy := IH.out blk cap len mid en b g lb cf ok w0 HC.out eg O (P ++ mg (ltC cf) A1 B1) A2 B2 Q R wc HG2.out HRW.out.2.1 HRW.out.2.2.2 HOK.out.2.1 HOK.out.2.2.2 (HK.out.trans HK2.out) (by rw [List.length_append, mg_length]; exact FN.out.q8) (by rw [List.length_append, mg_length]; exact FN.out.q6) (by rw [List.length_append, mg_length]; exact FN.out.q7) HL.out.2.2.2.1 hl hxy.1 hxy.2 FN.out.n2
        clear hxy
        go_wp2_with fail
        refine hsy.mono ?_
        rintro e w2 ⟨rfl, hg2, hk2⟩
        clear hsy
        have HG3 : Hid _ := hg2
        have HK3 : Hid _ := hk2
        clear hg2 hk2
        go_wp2
        go_end0
        exact ⟨rfl, by rw [HFIN.out]; exact HG3.out, HK2.out.trans HK3.out⟩
      · have HE : Hid (P ++ mg (ltC cf) A1 B1 ++ mg (ltC cf) A2 B2 ++ Q = P ++ mg (ltC cf) A1 B1 ++ A2 ++ B2 ++ Q) := by
          show _ = _
          rw [mg_empty HRW.out.2.1 HRW.out.2.2.2 (or_zero hxy)]
          simp
        by_cases hx : mid < en
        · have hy : ¬ en < b := fun h => hxy ⟨FN.out.t5.1 hx, FN.out.t6.1 h⟩
          have hyd : decide ((en : Int) < (b : Int)) = false := dec_lt (by assumption)
          clear hxy
          go_wp2
          go_end0
          exact ⟨rfl, by rw [HFIN.out, HE.out]; exact HG2.out, HK2.out⟩
        · have hxd : decide ((mid : Int) < (en : Int)) = false := dec_lt (by assumption)
          clear hxy
          go_wp2
          go_end0
          exact ⟨rfl, by rw [HFIN.out, HE.out]; exact HG2.out, HK2.out⟩

theorem symMerge_any : ∀ N, MergeOk N
  | 0 => fun _ _ _ _ _ _ _ _ _ _ _ _ _ _ _ A B _ _ _ _ _ _ _ _ _ _ _ _ _ _ h1 h2 hN => by omega
  | N + 1 => fun blk cap len a m b g lb cf ok w0 hC eg O P A B Q R w hG hA hB hoA hoB hK ha hm hb hlen hl h1 h2 hN => by
    by_cases hA1 : A.length = 1
    · obtain ⟨x, rfl⟩ := List.length_eq_one_iff.1 hA1
      have e : P ++ [x] ++ B ++ Q = P ++ x :: B ++ Q := by simp
      rw [e] at hG
      exact symLeft_any blk cap len a m b g lb cf ok w0 hC eg O P B Q x R w hG hB (hoA x (by simp)) hoB hK ha hm hb hlen hl
    · by_cases hB1 : B.length = 1
      · obtain ⟨x, rfl⟩ := List.length_eq_one_iff.1 hB1
        have e : P ++ A ++ [x] ++ Q = P ++ A ++ x :: Q := by simp
        rw [e] at hG
        exact symRight_any blk cap len a m b g lb cf ok w0 hC eg O P A Q x R w hG hA (hoB x (by simp)) hoA hK ha hm hb hlen hl (by omega)
      · exact symGen_any N (symMerge_any N) blk cap len a m b g lb cf ok w0 hC eg O P A B Q R w hG hA hB hoA hoB hK ha hm hb hlen hl (by omega) (by omega) hN

end Go.Proofs.YtlpbelhfpoilpaaGreat

