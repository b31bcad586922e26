import Derived.Deep.QuietTactic
import Derived.BigQuiet
import Derived.BigGuard
import Derived.Deep.Cut
import Derived.Test.YtlpbelhfpoilpaaGreatCRfFSoPSoA
set_option linter.all false
namespace Go.Scout
open Go.RowKit

theorem wrap_add2 {a k : Nat} (h : a + k ≤ 4000000) : wrap64 ((a : Int) + (k : Int)) = ((a + k : Nat) : Int) := by unfold wrap64; omega
theorem split_at {α : Type} (l : List α) (n : Nat) (h : n ≤ l.length) : ∃ a b, l = a ++ b ∧ a.length = n ∧ b.length = l.length - n := ⟨l.take n, l.drop n, (List.take_append_drop n l).symm, by simp [h], by simp⟩

/-- How far a rotation has come. -/
structure Rot (P X Y Q : List IntsV) (m len : Nat) (P' X' Y' Q' : List IntsV) : Prop where
  pos : 0 < X'.length ∧ 0 < Y'.length
  mid : m = P'.length + X'.length
  fit : m + Y'.length ≤ len
  eq : P' ++ Y' ++ X' ++ Q' = P ++ Y ++ X ++ Q

theorem Rot.more {P X Y Q P' X' Y' Q' : List IntsV} {m len : Nat} (h : Rot P X Y Q m len P' X' Y' Q') (hl : Y'.length < X'.length) : ∃ X1 X2, X' = X1 ++ X2 ∧ X1.length = Y'.length ∧ X2.length = X'.length - Y'.length ∧ Rot P X Y Q m len (P' ++ Y') X2 X1 Q' := by
  obtain ⟨X1, X2, e, l1, l2⟩ := split_at X' Y'.length (by omega)
  have h1 := h.pos
  have h2 := h.mid
  have h3 := h.fit
  refine ⟨X1, X2, e, l1, l2, ⟨by omega, by omega⟩, by rw [List.length_append]; omega, by omega, ?_⟩
  rw [← h.eq, e]
  simp

theorem Rot.less {P X Y Q P' X' Y' Q' : List IntsV} {m len : Nat} (h : Rot P X Y Q m len P' X' Y' Q') (hl : X'.length < Y'.length) : ∃ Y1 Y2, Y' = Y1 ++ Y2 ∧ Y1.length = Y'.length - X'.length ∧ Y2.length = X'.length ∧ Rot P X Y Q m len P' Y2 Y1 (X' ++ Q') := by
  obtain ⟨Y1, Y2, e, l1, l2⟩ := split_at Y' (Y'.length - X'.length) (by omega)
  have h1 := h.pos
  have h2 := h.mid
  have h3 := h.fit
  refine ⟨Y1, Y2, e, l1, by omega, ⟨by omega, by omega⟩, by omega, by omega, ?_⟩
  rw [← h.eq, e]
  simp

theorem rot_n1 {m j y len i : Nat} (hfit : m + y ≤ len) (hl : len ≤ 1000000) (ej : j = y) (hi : i ≤ 1000000) : m + j ≤ 4000000 ∧ m ≤ 4000000 ∧ j ≤ 4000000 := by omega
theorem rot_n2 {m p x i : Nat} (hmid : m = p + x) (ei : i = x) (j : Nat) : i ≤ m ∧ i ≤ m + j := by omega
theorem rot_n3 {i j x y y1 y2 : Nat} (ei : i = x) (ej : j = y) (l1 : y1 = y - x) (l2 : y2 = x) (h : i < j) (hi : 0 < i) (hj : j ≤ 1000000) : i = y2 ∧ j - i = y1 ∧ 0 < j - i ∧ j - i ≤ 1000000 ∧ i + (j - i) < i + j := by omega
theorem rot_n4 {i j m len y p x y1 : Nat} (hmid : m = p + x) (hfit : m + y ≤ len) (ei : i = x) (ej : j = y) (l1 : y1 = y - x) (h : i < j) : m + j - i = p + x + y1 ∧ m + j - i + i ≤ len := by omega
theorem cast_sub {i j : Nat} (h : j ≤ i) : Value.int .i64 ((i : Int) - (j : Int)) = Value.int .i64 ((i - j : Nat) : Int) := by rw [Int.ofNat_sub h]
theorem rot_sub {m i j : Nat} (h : i ≤ m) : m + j - i = m - i + j := by omega
theorem rot_b1 {p x m : Nat} (h : m = p + x) : m - x = p := by omega

end Go.Scout
namespace Go.Proofs.YtlpbelhfpoilpaaGreat
open Go.RowKit Go.Scout

set_option maxRecDepth 20000 in
set_option maxHeartbeats 4000000 in
theorem rotate_any (blk cap len a m b : Nat) (f : Value) (P X Y Q : List IntsV) (R : List Value) (w : World) (hG : GB w blk 23 (SL (P ++ X ++ Y ++ Q) R)) (hX : 0 < X.length) (hY : 0 < Y.length) (ha : a = P.length) (hm : m = P.length + X.length) (hb : b = P.length + X.length + Y.length) (hlen : b ≤ len) (hl : len ≤ 1000000) :
    Calls Tryz.prog 113 #[.slice (some ⟨blk, 0, none⟩) len cap, .int .i64 a, .int .i64 m, .int .i64 b, f] w fun e w' => e = .returned (.tuple #[]) ∧ GB w' blk 23 (SL (P ++ Y ++ X ++ Q) R) ∧ Kept (fun b => b ≠ blk) w w' := by
  have w1 : wrap64 ((m : Int) - (a : Int)) = (X.length : Int) := by unfold wrap64; omega
  have w2 : wrap64 ((b : Int) - (m : Int)) = (Y.length : Int) := by unfold wrap64; omega
  have hR : Rot P X Y Q m len P X Y Q := ⟨⟨hX, hY⟩, hm, by omega, rfl⟩
  have HG : Hid _ := hG
  have HR : Hid _ := hR
  clear hG hR hX hY ha hm hb hlen
  go_enter Tryz.func113, Tryz.ntmps113
  go_wp2
  try simp only [w1, w2]
  clear w1 w2
  go_loopw [10, 11] (fun iv jv wr => ∃ (i j : Nat) (P' X' Y' Q' : List IntsV), iv = .int .i64 i ∧ jv = .int .i64 j ∧ i ≤ 1000000 ∧ j ≤ 1000000 ∧ 0 < i ∧ 0 < j ∧ Hid (i = X'.length ∧ j = Y'.length ∧ Rot P X Y Q m len P' X' Y' Q' ∧ GB wr blk 23 (SL (P' ++ X' ++ Y' ++ Q') R) ∧ Kept (fun b => b ≠ blk) w wr)) (fun iv jv _ => (intOf iv).toNat + (intOf jv).toNat)
  case atStart =>
    have h := HR.out
    have h1 := h.pos
    have h2 := h.mid
    have h3 := h.fit
    exact ⟨X.length, Y.length, P, X, Y, Q, rfl, rfl, by omega, by omega, h1.1, h1.2, rfl, rfl, h, HG.out, Kept.refl _ _⟩
  case round =>
    obtain ⟨i, j, P', X', Y', Q', rfl, rfl, hi, hj, hi0, hj0, HI⟩ := hrel
    obtain ⟨ei, ej, hr, hg, hk⟩ := HI.out
    have hmid := hr.mid
    have hfit := hr.fit
    have hn1 := rot_n1 hfit hl ej hi
    have hn2 := rot_n2 hmid ei j
    have hmi : wrap64 ((m : Int) - (i : Int)) = ((m - i : Nat) : Int) := wrap_sub hn2.1 hn1.2.1
    have hmn : m - i = P'.length := by omega
    by_cases hlt : j < i
    · obtain ⟨X1, X2, e, l1, l2, hr2⟩ := hr.more (by omega)
      have hcall := swapRange_any blk cap len (m - i) m j f P' X1 X2 Y' Q' R wr (by rw [e] at hg; rwa [List.append_assoc P'] ) (by omega) (by omega) hmn (by rw [hmid, e, List.length_append]; omega) (by omega) hl
      have hw : wrap64 ((i : Int) - (j : Int)) = ((i - j : Nat) : Int) := wrap_sub (by omega) (by omega)
      have HF : Hid (i - j = X2.length ∧ j = X1.length ∧ 0 < i - j ∧ i - j ≤ 1000000 ∧ i - j + j < i + j) := by constructor <;> omega
      have HK : Hid _ := hk
      have HR2 : Hid _ := hr2
      clear hk hr2 hr hg HI hmid hfit hmn ei ej e l1 l2 hn1 hn2
      go_wp2_with fail
      refine hcall.mono ?_
      rintro e w2 ⟨rfl, hg2, hk2⟩
      clear hcall
      have HG2 : Hid _ := hg2
      have HK2 : Hid _ := hk2
      clear hg2 hk2
      go_wp2
      go_roundw
      case rel => exact ⟨i - j, j, P' ++ Y', X2, X1, Q', cast_sub (Nat.le_of_lt hlt), rfl, HF.out.2.2.2.1, hj, HF.out.2.2.1, hj0, HF.out.1, HF.out.2.1, HR2.out, HG2.out, HK.out.trans HK2.out⟩
      case measure => have := HF.out; simp [intOf]; omega
    · by_cases hlt2 : i < j
      · obtain ⟨Y1, Y2, e, l1, l2, hr2⟩ := hr.less (by omega)
        have hn3 := rot_n3 ei ej l1 l2 hlt2 hi0 hj
        have hn4 := rot_n4 hmid hfit ei ej l1 hlt2
        have hcall := swapRange_any blk cap len (m - i) (m + j - i) i f P' X' Y1 Y2 Q' R wr (by rw [e] at hg; rwa [← List.append_assoc (P' ++ X')] at hg) ei.symm (l2.trans ei.symm) hmn hn4.1 hn4.2 hl
        have hw : wrap64 ((j : Int) - (i : Int)) = ((j - i : Nat) : Int) := wrap_sub (Nat.le_of_lt hlt2) hn1.2.2
        have hw1 : wrap64 ((m : Int) + (j : Int)) = ((m + j : Nat) : Int) := wrap_add2 hn1.1
        have hw2 : wrap64 (((m + j : Nat) : Int) - (i : Int)) = ((m + j - i : Nat) : Int) := wrap_sub hn2.2 hn1.1
        have HF : Hid (i = Y2.length ∧ j - i = Y1.length ∧ 0 < j - i ∧ j - i ≤ 1000000 ∧ i + (j - i) < i + j) := hn3
        have HK : Hid _ := hk
        have HR2 : Hid _ := hr2
        clear hk hr2 hr hg HI hmid hfit hmn ei ej e l1 l2 hn1 hn2 hn3 hn4
        generalize m + j = mj at *
        go_wp2_with fail
        refine hcall.mono ?_
        rintro e w2 ⟨rfl, hg2, hk2⟩
        clear hcall
        have HG2 : Hid _ := hg2
        have HK2 : Hid _ := hk2
        clear hg2 hk2
        go_wp2
        go_roundw
        case rel => exact ⟨i, j - i, P', Y2, Y1, X' ++ Q', rfl, cast_sub (Nat.le_of_lt hlt2), hi, HF.out.2.2.2.1, hi0, HF.out.2.2.1, HF.out.1, HF.out.2.1, HR2.out, by have h := HG2.out; rwa [List.append_assoc (P' ++ Y2 ++ Y1)] at h, HK.out.trans HK2.out⟩
        case measure => have := HF.out; simp [intOf]; omega
      · obtain rfl : i = j := by omega
        have hcall := swapRange_any blk cap len (m - i) m i f P' X' [] Y' Q' R wr (by rw [List.append_nil]; exact hg) ei.symm ej.symm hmn (by rw [hmid]; rfl) (by omega) hl
        rw [List.append_nil, hr.eq] at hcall
        have HK : Hid _ := hk
        clear hk hr hg HI hmid hfit hmn ei ej hn1 hn2
        go_wp2_with fail
        refine hcall.mono ?_
        rintro e w2 ⟨rfl, hg2, hk2⟩
        clear hcall
        have HG2 : Hid _ := hg2
        have HK2 : Hid _ := hk2
        clear hg2 hk2
        go_wp2
        go_end0
        exact ⟨rfl, HG2.out, HK.out.trans HK2.out⟩

end Go.Proofs.YtlpbelhfpoilpaaGreat

namespace Go.Scout
open Go.RowKit

/-- A function that compares two rows: it reads alone. -/
def Cmps (P : Program) (g : Nat) (lb : Array Value) (cf : IntsV → IntsV → Int) (blk : Nat) (w0 : World) (ok : IntsV → Prop) : Prop :=
  ∀ W x y, Kept (fun b => b ≠ blk) w0 W → ok x → ok y → Calls P g (#[x.val, y.val] ++ lb) W fun e W' => e = .returned (.int .i64 (cf x y)) ∧ ∃ m, W' = W.drewN m

def ltC (cf : IntsV → IntsV → Int) (x y : IntsV) : Bool := decide (cf x y < 0)

theorem ltC_true {cf : IntsV → IntsV → Int} {x y : IntsV} (h : cf x y < 0) : ltC cf x y = true := decide_eq_true h
theorem ltC_false {cf : IntsV → IntsV → Int} {x y : IntsV} (h : ¬ cf x y < 0) : ltC cf x y = false := decide_eq_false h

theorem GB.at_mid {w : World} {blk : Nat} {t : TypeId} {R : List Value} {L A C : List IntsV} {x : IntsV} (h : GB w blk t (SL L R)) (e : L = A ++ x :: C) {i : Nat} (h1 : i = A.length) : w.cell? ⟨blk, i, none⟩ = some x.val := by
  refine (h.cell i).trans ?_
  have e1 : SL L R = (A.map IntsV.val ++ x.val :: (C.map IntsV.val ++ R)).toArray := by
    rw [e]; unfold SL; simp
  have e2 : i = (A.map IntsV.val).length := by rw [h1, List.length_map]
  rw [e1, e2]
  exact Go.Scout.at_mid _ _ _

theorem ins_n1 {a b p l i l1 : Nat} (ha : a = p) (hb : b = p + l) (h1 : i = a + l1) (h2 : l1 < l) : i < b ∧ i + 1 = a + (l1 + 1) ∧ l1 + 1 ≤ l := by omega
theorem ins_n2 {a b p l i l1 : Nat} (ha : a = p) (hb : b = p + l) (h1 : i = a + l1) (h2 : ¬ l1 < l) : ¬ i < b := by omega
theorem ins_n3 {a p jp j s : Nat} (ha : a = p) (hj : j = a + (s + 1)) (h : j = jp + 1) : jp = p + s ∧ a < jp + 1 ∧ jp + 1 = p + s + 1 + 0 ∧ jp = a + s := by omega
theorem ins_n4 {b len l i j jp : Nat} (hl : len ≤ 1000000) (hlen : b ≤ len) (hi : i < b) (hj : j ≤ i) (h : j = jp + 1) : jp < len ∧ jp + 1 < len ∧ i ≤ 1000000 ∧ jp ≤ i := by omega

end Go.Scout
namespace Go.Proofs.YtlpbelhfpoilpaaGreat
open Go.RowKit Go.Scout

set_option maxRecDepth 20000 in
set_option maxHeartbeats 4000000 in
theorem insertion_any (blk cap len a b g : Nat) (lb : Array Value) (cf : IntsV → IntsV → Int) (ok : IntsV → Prop) (w0 : World) (hC : Cmps Tryz.prog g lb cf blk w0 ok) (eg : ∀ args w, (callFunc g args).run Tryz.prog w = .ok (.enter g args) w)
    (P L Q : List IntsV) (R : List Value) (w : World) (hG : GB w blk 23 (SL (P ++ L ++ Q) R)) (hok : ∀ x ∈ L, ok x) (hK : Kept (fun b => b ≠ blk) w0 w) (ha : a = P.length) (hb : b = P.length + L.length) (hlen : b ≤ len) (hl : len ≤ 1000000) :
    Calls Tryz.prog 109 #[.slice (some ⟨blk, 0, none⟩) len cap, .int .i64 a, .int .i64 b, .func (.func g) #[] lb] w fun e w' => e = .returned (.tuple #[]) ∧ GB w' blk 23 (SL (P ++ mg (ltC cf) [] L ++ Q) R) ∧ Kept (fun b => b ≠ blk) w w' := by
  cases L with
  | nil =>
    have hba : ¬ ((a : Int) + 1 < (b : Int)) := by simp only [List.length_nil] at hb; omega
    have HG : Hid _ := hG
    have hal : a ≤ 1000000 := by simp only [List.length_nil] at hb; omega
    clear hG hK hlen hl ha hb
    go_enter Tryz.func109, Tryz.ntmps109
    go_wp2
    refine wp_loop_rounds 1 ?_
    rw [rounds_succ]
    go_wp2
    go_end0
    exact ⟨rfl, HG.out, Kept.refl _ _⟩
  | cons x0 L0 =>
    have HG : Hid _ := hG
    have HC : Hid _ := hC
    have HO : Hid _ := hok
    have HK : Hid _ := hK
    have HA : Hid _ := And.intro ha (And.intro hb (And.intro hlen hl))
    have hal : a ≤ 1000000 := by have := HA.out; omega
    have hw1 : wrap64 ((a : Int) + 1) = ((a + 1 : Nat) : Int) := by unfold wrap64; omega
    clear hG hC hok hK ha hb hlen hl
    go_enter Tryz.func109, Tryz.ntmps109
    go_wp2
    go_loopw [8] (fun iv wr => ∃ (i : Nat) (L1 L2 : List IntsV), iv = .int .i64 i ∧ i ≤ b ∧ Hid (x0 :: L0 = L1 ++ L2 ∧ i = a + L1.length ∧ GB wr blk 23 (SL (P ++ mg (ltC cf) [] L1 ++ L2 ++ Q) R) ∧ Kept (fun b => b ≠ blk) w wr)) (fun iv _ => b - (intOf iv).toNat)
    case atStart =>
      refine ⟨a + 1, [x0], L0, by go_num, by have := HA.out; simp only [List.length_cons] at this; omega, rfl, rfl, ?_, Kept.refl _ _⟩
      have e : P ++ mg (ltC cf) [] [x0] ++ L0 ++ Q = P ++ (x0 :: L0) ++ Q := by show P ++ [x0] ++ L0 ++ Q = _; simp
      rw [e]
      exact HG.out
    case round =>
      obtain ⟨i, L1, L2, rfl, hib, HI⟩ := hrel
      obtain ⟨eL, ei, hg, hk⟩ := HI.out
      cases L2 with
      | nil =>
        rw [List.append_nil] at eL
        rw [← eL, List.append_nil] at hg
        have hni : ¬ ((i : Int) < (b : Int)) := by
          have h1 := HA.out
          rw [eL] at h1
          omega
        have HF : Hid _ := And.intro hg hk
        clear HI hg hk ei eL
        go_wp2
        go_end0
        exact ⟨rfl, by have h := HF.out.1; rw [List.append_assoc] at h; exact h, HF.out.2⟩
      | cons x L3 =>
        have hL : (x0 :: L0).length = L1.length + (L3.length + 1) := by rw [eL]; simp
        have hlt : (i : Int) < (b : Int) := by have h1 := HA.out; omega
        have hi1 : i ≤ 1000000 := by have h1 := HA.out; omega
        have hx : ok x := HO.out x (by rw [eL]; simp)
        have hmem : ∀ y ∈ mg (ltC cf) [] L1, ok y := fun y hy => by
          rcases mg_mem.1 hy with h | h
          · cases h
          · exact HO.out y (by rw [eL]; exact List.mem_append.2 (Or.inl h))
        have hsl : (mg (ltC cf) [] L1).length = L1.length := by rw [mg_length]; simp
        have HX : Hid _ := hx
        have HM : Hid _ := hmem
        have HE : Hid _ := eL
        have HEI : Hid _ := ei
        have HGI : Hid _ := And.intro hg hk
        have HSL : Hid _ := hsl
        clear hx hmem eL ei hg hk hsl hL HI
        go_wp2
        go_loopw [9] (fun jv wr2 => ∃ (j : Nat) (S1 S2 : List IntsV), jv = .int .i64 j ∧ j ≤ i ∧ Hid (mg (ltC cf) [] L1 = S1 ++ S2 ∧ j = a + S1.length ∧ (∀ s ∈ S2, ltC cf x s = true) ∧ GB wr2 blk 23 (SL (P ++ S1 ++ x :: S2 ++ L3 ++ Q) R) ∧ Kept (fun b => b ≠ blk) w wr2)) (fun jv _ => (intOf jv).toNat)
        case atStart =>
          refine ⟨i, mg (ltC cf) [] L1, [], rfl, Nat.le_refl _, by rw [List.append_nil], by rw [HSL.out]; exact HEI.out, fun s hs => (by cases hs), ?_, HGI.out.2⟩
          have h := HGI.out.1
          have e : P ++ mg (ltC cf) [] L1 ++ x :: [] ++ L3 ++ Q = P ++ mg (ltC cf) [] L1 ++ x :: L3 ++ Q := by simp
          rw [e]
          exact h
        case round =>
          obtain ⟨j, S1, S2, rfl, hji, HJ⟩ := hrel
          obtain ⟨eS, ej, hS2, hg, hk⟩ := HJ.out
          rcases List.eq_nil_or_concat S1 with hs1 | ⟨S3, y, hs1⟩
          · subst hs1
            have eja : j = a := ej
            have hja : decide ((j : Int) > (a : Int)) = false := decide_eq_false (by rw [eja]; exact Int.lt_irrefl _)
            have hja2 : decide ((a : Int) < (j : Int)) = false := hja
            have hja3 : ¬ (a : Int) < (j : Int) := of_decide_eq_false hja
            have hja4 : ¬ a < j := by rw [eja]; exact Nat.lt_irrefl _
            have hfin : mg (ltC cf) [] (L1 ++ [x]) = x :: S2 := by
              rw [mg_app, mg_one, eS]
              exact insR_left (lt := ltC cf) (A1 := []) hS2
            have HF : Hid _ := hfin
            have HGJ : Hid _ := And.intro hg hk
            clear HJ eS ej hS2 hg hk hfin eja
            go_wp2_with fail
            go_quiet (fail)
            go_wp2
            go_roundw
            case rel =>
              refine ⟨i + 1, L1 ++ [x], L3, by go_num, by omega, by rw [HE.out, List.append_assoc]; rfl, by rw [List.length_append, HEI.out]; rfl, ?_, HGJ.out.2.trans (Kept.drewN _ _)⟩
              rw [HF.out]
              have h := HGJ.out.1.drewN nq
              rw [List.append_nil] at h
              exact h
            case measure => simp [intOf]; omega
          · rw [List.concat_eq_append] at hs1
            subst hs1
            have hy : ok y := HM.out y (by rw [eS]; simp)
            obtain ⟨jp, hjp⟩ : ∃ jp, j = jp + 1 := ⟨a + S3.length, by rw [ej]; simp; omega⟩
            have hn3 := ins_n3 (s := S3.length) HA.out.1 (by rw [ej]; simp) hjp
            have hn4 := ins_n4 (l := 0) HA.out.2.2.2 HA.out.2.2.1 (Int.ofNat_lt.1 hlt) hji hjp
            have e : P ++ (S3 ++ [y]) ++ x :: S2 ++ L3 ++ Q = (P ++ S3) ++ y :: [] ++ x :: (S2 ++ L3 ++ Q) := by simp
            have hs := hg.swapS e (i1 := jp) (i2 := jp + 1) (by rw [List.length_append]; exact hn3.1) (by rw [List.length_append]; exact hn3.2.2.1)
            have hc : ∀ n, Calls Tryz.prog g (#[x.val, y.val] ++ lb) (wr.drewN n) fun e W' => e = .returned (.int .i64 (cf x y)) ∧ ∃ m, W' = (wr.drewN n).drewN m := fun n => HC.out (wr.drewN n) x y ((HK.out.trans hk).trans (Kept.drewN _ _)) HX.out hy
            have hfin : ¬ cf x y < 0 → mg (ltC cf) [] (L1 ++ [x]) = S3 ++ [y] ++ x :: S2 := fun hnl => by
              rw [mg_app, mg_one, eS, insR_left hS2, insR_snoc, if_neg (by rw [ltC_false hnl]; simp)]
              simp
            have hS2' : cf x y < 0 → ∀ s ∈ y :: S2, ltC cf x s = true := fun hl s hs => by
              rcases List.mem_cons.1 hs with h | h
              · rw [h]; exact ltC_true hl
              · exact hS2 s h
            have eS' : mg (ltC cf) [] L1 = S3 ++ (y :: S2) := by rw [eS]; simp
            subst hjp
            have c1 := hs.c1
            have c2 := hs.c2
            have z1 := hs.z1
            have z2 := hs.z2
            have hwp : IntKind.i64.wrap (jp : Int) = (jp : Int) := by rw [IntKind.wrap_i64]; omega
            have jz : (jp : Int) + 1 < (len : Int) := by omega
            have jz1 : (jp : Int) < (len : Int) := by omega
            have hja : (a : Int) < (jp : Int) + 1 := by omega
            have p0 : (0 : Int) ≤ (jp : Int) + 1 := by omega
            have e0 : ((jp : Int) + 1).toNat = jp + 1 := by omega
            have HS : Hid _ := hs
            have HF : Hid _ := hfin
            have HS2 : Hid _ := hS2'
            have HES : Hid _ := eS'
            have HGJ : Hid _ := And.intro hg hk
            have HN3 : Hid _ := hn3
            have HN4 : Hid _ := hn4
            clear HJ eS ej hS2 hg hk hfin e hS2' eS' hs hn3 hn4 hy
            obtain ⟨xad, xcap, xxs⟩ := x
            obtain ⟨yad, ycap, yxs⟩ := y
            unfold IntsV.val at c1 c2 hc
            simp only at c1 c2 hc
            by_cases hlv : cf ⟨xad, xcap, xxs⟩ ⟨yad, ycap, yxs⟩ < 0
            · go_wp2_with fail
              go_quiet (first | (go_at_fn g; refine Calls.quiet_of (hc _)))
              go_wp2_with fail
              have e : P ++ (S3 ++ [IntsV.mk yad ycap yxs]) ++ IntsV.mk xad xcap xxs :: S2 ++ L3 ++ Q = (P ++ S3) ++ IntsV.mk yad ycap yxs :: [] ++ IntsV.mk xad xcap xxs :: (S2 ++ L3 ++ Q) := by simp
              have hs := (HGJ.out.1.drewN nq).swapS e (i1 := jp) (i2 := jp + 1) (by rw [List.length_append]; exact HN3.out.1) (by rw [List.length_append]; exact HN3.out.2.2.1)
              have hk : Kept (fun b => b ≠ blk) w (wr.drewN nq) := HGJ.out.2.trans (Kept.drewN _ _)
              clear c1 c2 z1 z2 hc HGJ HS HF e
              generalize wr.drewN nq = wq at *
              obtain ⟨j1, hj1⟩ : ∃ j1, j1 = jp + 1 := ⟨_, rfl⟩
              rw [← hj1] at e0 hs
              have c1 := hs.c1
              have c2 := hs.c2
              have z1 := hs.z1
              have z2 := hs.z2
              have hne := hs.ne
              have hd := hs.down
              unfold IntsV.val at c1 c2 hd
              simp only at c1 c2 hd
              have HD : Hid _ := hd
              have HKQ : Hid _ := hk
              have HJ1 : Hid _ := hj1
              clear hs hd hk hj1
              go_region
              have hd := HD.out
              clear HD
              generalize ((wq.setCell { block := blk, off := j1 } (Value.slice yad yxs.length ycap)).setCell { block := blk, off := jp } (Value.slice xad xxs.length xcap)).drew = wf at *
              have HD : Hid _ := hd
              clear hd
              go_wp2
              go_roundw
              case rel =>
                refine ⟨jp, S3, IntsV.mk yad ycap yxs :: S2, by first | rfl | go_num, HN4.out.2.2.2, HES.out, HN3.out.2.2.2, HS2.out hlv, ?_, HKQ.out.trans HD.out.2⟩
                have h := HD.out.1
                have e : P ++ S3 ++ IntsV.mk xad xcap xxs :: (IntsV.mk yad ycap yxs :: S2) ++ L3 ++ Q = P ++ S3 ++ IntsV.mk xad xcap xxs :: [] ++ IntsV.mk yad ycap yxs :: (S2 ++ L3 ++ Q) := by simp
                rw [e]
                exact h
              case measure => simp [intOf]
            · go_wp2_with fail
              go_quiet (first | (go_at_fn g; refine Calls.quiet_of (hc _)))
              go_wp2
              go_roundw
              case rel =>
                refine ⟨i + 1, L1 ++ [⟨xad, xcap, xxs⟩], L3, by go_num, by omega, by rw [HE.out, List.append_assoc]; rfl, by rw [List.length_append, HEI.out]; rfl, ?_, HGJ.out.2.trans (Kept.drewN _ _)⟩
                rw [HF.out hlv]
                have h := HGJ.out.1.drewN nq
                have e : P ++ (S3 ++ [IntsV.mk yad ycap yxs] ++ IntsV.mk xad xcap xxs :: S2) ++ L3 ++ Q = P ++ (S3 ++ [IntsV.mk yad ycap yxs]) ++ IntsV.mk xad xcap xxs :: S2 ++ L3 ++ Q := by simp
                rw [e]
                exact h
              case measure => simp [intOf]; omega

end Go.Proofs.YtlpbelhfpoilpaaGreat

namespace Go.Scout
open Go.RowKit

section
variable {α : Type} {lt : α → α → Bool}

/-- One ahead of a row's rows: those that are ahead of it go first. -/
theorem mg_first {x : α} {B1 B3 : List α} (h1 : ∀ y ∈ B1, lt y x = true) (h3 : ∀ y ∈ B3, lt y x = false) (hB : InRow lt (B1 ++ B3)) : mg lt [x] (B1 ++ B3) = B1 ++ x :: B3 := by
  unfold InRow at hB
  rw [List.pairwise_append] at hB
  have e := mg_split (lt := lt) (A1 := []) (A2 := [x]) (B1 := B1) (B2 := B3) (fun b hb a ha => by rw [List.mem_singleton] at ha; subst ha; exact h1 b hb) (fun b _ a ha => by cases ha) (fun b hb a ha => hB.2.2 a ha b hb)
  rw [List.nil_append] at e
  rw [e, mg_row (lt := lt) hB.1 (fun b _ a ha => by cases ha), List.nil_append, mg_row (lt := lt) hB.2.1 (fun b hb a ha => by rw [List.mem_singleton] at ha; subst ha; exact h3 b hb)]
  rfl

theorem mg_last {y : α} {A1 A3 : List α} (h1 : ∀ a ∈ A1, lt y a = false) (h3 : ∀ a ∈ A3, lt y a = true) : mg lt (A1 ++ A3) [y] = A1 ++ y :: A3 := by
  rw [mg_one, insR_left h3, insR_stop h1]
  simp

/-- What is known at one place of a row is known ahead of it. -/
theorem row_less (O : Ahead lt) {B4 B5 : List α} {z x : α} (hB : InRow lt (B4 ++ z :: B5)) (h : lt z x = true) : ∀ y ∈ B4, lt y x = true := by
  intro y hy
  unfold InRow at hB
  rw [List.pairwise_append] at hB
  have h1 := hB.2.2 y hy z (by simp)
  cases hyx : lt y x with
  | true => rfl
  | false =>
    have := O.ntrans hyx h1
    rw [h] at this
    cases this

theorem row_more (O : Ahead lt) {B4 B5 : List α} {z x : α} (hB : InRow lt (B4 ++ z :: B5)) (h : lt z x = false) : ∀ y ∈ B5, lt y x = false := by
  intro y hy
  unfold InRow at hB
  rw [List.pairwise_append, List.pairwise_cons] at hB
  exact O.ntrans h (hB.2.1.1 y hy)

theorem row_more' (O : Ahead lt) {B4 B5 : List α} {z x : α} (hB : InRow lt (B4 ++ z :: B5)) (h : lt x z = true) : ∀ y ∈ B5, lt x y = true := by
  intro y hy
  unfold InRow at hB
  rw [List.pairwise_append, List.pairwise_cons] at hB
  have h1 := hB.2.1.1 y hy
  cases hxy : lt x y with
  | true => rfl
  | false =>
    have := O.ntrans h1 hxy
    rw [h] at this
    cases this

theorem row_less' (O : Ahead lt) {B4 B5 : List α} {z x : α} (hB : InRow lt (B4 ++ z :: B5)) (h : lt x z = false) : ∀ y ∈ B4, lt x y = false := by
  intro y hy
  unfold InRow at hB
  rw [List.pairwise_append] at hB
  exact O.ntrans (hB.2.2 y hy z (by simp)) h

theorem InRow.sub {A B C : List α} (h : InRow lt (A ++ B ++ C)) : InRow lt A ∧ InRow lt B ∧ InRow lt C := by
  unfold InRow at *
  rw [List.pairwise_append, List.pairwise_append] at h
  exact ⟨h.1.1, h.1.2.1, h.2.1⟩

end

/-- How far a search has come: of those of B the ones below i are known, and those from j on. -/
structure Found1 (lt : IntsV → IntsV → Bool) (x : IntsV) (B : List IntsV) (m i j : Nat) (B1 B2 B3 : List IntsV) : Prop where
  eq : B = B1 ++ B2 ++ B3
  li : i = m + B1.length
  lj : j = m + B1.length + B2.length
  lo : ∀ y ∈ B1, lt y x = true
  hi : ∀ y ∈ B3, lt y x = false

theorem half_le {i j : Nat} (h : i < j) : i ≤ (i + j) / 2 ∧ (i + j) / 2 < j := by omega

theorem Found1.step {lt : IntsV → IntsV → Bool} {x : IntsV} {B : List IntsV} {m i j : Nat} {B1 B2 B3 : List IntsV} (h : Found1 lt x B m i j B1 B2 B3) (O : Ahead lt) (hB : InRow lt B) {c : Nat} (hc : i ≤ c ∧ c < j) :
    ∃ B4 z B5, B2 = B4 ++ z :: B5 ∧ c = m + B1.length + B4.length ∧ (lt z x = true → Found1 lt x B m (c + 1) j (B1 ++ B4 ++ [z]) B5 B3) ∧ (lt z x = false → Found1 lt x B m i c B1 B4 (z :: B5 ++ B3)) := by
  have h1 := h.li
  have h2 := h.lj
  obtain ⟨B4, B6, e, l4, l6⟩ := split_at B2 (c - i) (by omega)
  obtain ⟨z, B5, rfl⟩ : ∃ z B5, B6 = z :: B5 := by
    cases B6 with
    | nil => simp at l6; omega
    | cons z B5 => exact ⟨z, B5, rfl⟩
  have hb := h.eq
  have hB' : InRow lt ((B1 ++ B4) ++ z :: (B5 ++ B3)) := by rw [hb, e] at hB; simpa using hB
  have hl : B2.length = B4.length + (B5.length + 1) := by rw [e]; simp
  refine ⟨B4, z, B5, e, by omega, fun hz => ⟨by rw [hb, e]; simp, by simp; omega, by simp; omega, fun y hy => ?_, h.hi⟩, fun hz => ⟨by rw [hb, e]; simp, h1, by omega, h.lo, fun y hy => ?_⟩⟩
  · rcases List.mem_append.1 hy with hy | hy
    · exact row_less O hB' hz y hy
    · rw [List.mem_singleton] at hy; rw [hy]; exact hz
  · rcases List.mem_append.1 hy with hy | hy
    · rcases List.mem_cons.1 hy with hy | hy
      · rw [hy]; exact hz
      · exact row_more O hB' hz y (List.mem_append.2 (Or.inl hy))
    · exact h.hi y hy

structure Found2 (lt : IntsV → IntsV → Bool) (x : IntsV) (B : List IntsV) (m i j : Nat) (B1 B2 B3 : List IntsV) : Prop where
  eq : B = B1 ++ B2 ++ B3
  li : i = m + B1.length
  lj : j = m + B1.length + B2.length
  lo : ∀ y ∈ B1, lt x y = false
  hi : ∀ y ∈ B3, lt x y = true

theorem Found2.step {lt : IntsV → IntsV → Bool} {x : IntsV} {B : List IntsV} {m i j : Nat} {B1 B2 B3 : List IntsV} (h : Found2 lt x B m i j B1 B2 B3) (O : Ahead lt) (hB : InRow lt B) {c : Nat} (hc : i ≤ c ∧ c < j) :
    ∃ B4 z B5, B2 = B4 ++ z :: B5 ∧ c = m + B1.length + B4.length ∧ (lt x z = false → Found2 lt x B m (c + 1) j (B1 ++ B4 ++ [z]) B5 B3) ∧ (lt x z = true → Found2 lt x B m i c B1 B4 (z :: B5 ++ B3)) := by
  have h1 := h.li
  have h2 := h.lj
  obtain ⟨B4, B6, e, l4, l6⟩ := split_at B2 (c - i) (by omega)
  obtain ⟨z, B5, rfl⟩ : ∃ z B5, B6 = z :: B5 := by
    cases B6 with
    | nil => simp at l6; omega
    | cons z B5 => exact ⟨z, B5, rfl⟩
  have hb := h.eq
  have hB' : InRow lt ((B1 ++ B4) ++ z :: (B5 ++ B3)) := by rw [hb, e] at hB; simpa using hB
  have hl : B2.length = B4.length + (B5.length + 1) := by rw [e]; simp
  refine ⟨B4, z, B5, e, by omega, fun hz => ⟨by rw [hb, e]; simp, by simp; omega, by simp; omega, fun y hy => ?_, h.hi⟩, fun hz => ⟨by rw [hb, e]; simp, h1, by omega, h.lo, fun y hy => ?_⟩⟩
  · rcases List.mem_append.1 hy with hy | hy
    · exact row_less' O hB' hz y hy
    · rw [List.mem_singleton] at hy; rw [hy]; exact hz
  · rcases List.mem_append.1 hy with hy | hy
    · rcases List.mem_cons.1 hy with hy | hy
      · rw [hy]; exact hz
      · exact row_more' O hB' hz y (List.mem_append.2 (Or.inl hy))
    · exact h.hi y hy

end Go.Scout

namespace Go.Scout
open Go.RowKit

theorem sl_n1 {a m b p lb len i : Nat} (ha : a = p) (hm : m = p + 1) (hb : b = p + 1 + lb) (hlen : b ≤ len) (hl : len ≤ 1000000) : m = a + 1 ∧ a < len ∧ b ≤ 1000000 ∧ m ≤ b := by omega

theorem Found1.len {lt : IntsV → IntsV → Bool} {x : IntsV} {B : List IntsV} {m i j : Nat} {B1 B2 B3 B4 B5 : List IntsV} {z : IntsV} (h : Found1 lt x B m i j B1 B2 B3) (e : B2 = B4 ++ z :: B5) : B.length = B1.length + (B4.length + (B5.length + 1)) + B3.length := by
  rw [h.eq, e]
  simp only [List.length_append, List.length_cons]
theorem Found2.len {lt : IntsV → IntsV → Bool} {x : IntsV} {B : List IntsV} {m i j : Nat} {B1 B2 B3 B4 B5 : List IntsV} {z : IntsV} (h : Found2 lt x B m i j B1 B2 B3) (e : B2 = B4 ++ z :: B5) : B.length = B1.length + (B4.length + (B5.length + 1)) + B3.length := by
  rw [h.eq, e]
  simp only [List.length_append, List.length_cons]
theorem sl_n5 {c p b1 b4 : Nat} (h : c = p + 1 + b1 + b4) : c = p + (b1 + b4 + 1) := by omega
theorem wrap_succ {k k1 : Nat} (h : k1 = k + 1) (hk : k ≤ 1000000) : wrap64 ((k : Int) + 1) = (k1 : Int) ∧ ((k : Int) + 1).toNat = k1 ∧ (k : Int) + 1 = (k1 : Int) := by unfold wrap64; omega
theorem sl_n6 {k i : Nat} (h : k < i - 1) : k + 1 ≤ i := by omega
theorem half_int {i j c : Nat} (h : c = (i + j) / 2) : ((i : Int) + (j : Int)) / 2 = (c : Int) := by omega
theorem sl_n2 {c m p b1 b4 b5 b3 lb len b : Nat} (hm : m = p + 1) (hb : b = p + 1 + lb) (hlen : b ≤ len) (hl : len ≤ 1000000) (hB : lb = b1 + (b4 + (b5 + 1)) + b3) (ec : c = m + b1 + b4) : c = p + 1 + b1 + b4 ∧ c < len ∧ c + 1 ≤ 1000000 ∧ (c : Int) < (len : Int) := by omega
theorem sl_n3 {a p l1 l2 m i len b lb l3 : Nat} (ha : a = p) (hm : m = p + 1) (hi : i = m + (l1 + (l2 + 1))) (hb : b = p + 1 + lb) (hlen : b ≤ len) (hl : len ≤ 1000000) (hB : lb = l1 + (l2 + 1) + l3) : a + l1 < i - 1 ∧ a + l1 = p + l1 ∧ a + l1 + 1 = p + l1 + 1 + 0 ∧ a + l1 + 1 < len ∧ a + l1 < len ∧ 1 ≤ i ∧ i ≤ 1000000 ∧ a + l1 + 1 = a + (l1 + 1) := by omega
theorem sl_n4 {a p l1 m i : Nat} (ha : a = p) (hm : m = p + 1) (hi : i = m + l1) : ¬ a + l1 < i - 1 ∧ 1 ≤ i := by omega

end Go.Scout
namespace Go.Proofs.YtlpbelhfpoilpaaGreat
open Go.RowKit Go.Scout

set_option maxRecDepth 20000 in
set_option maxHeartbeats 4000000 in
/-- symMerge, where the first part is one row. -/
theorem symLeft_any (blk cap len a m b g : Nat) (lb : Array Value) (cf : IntsV → IntsV → Int) (ok : IntsV → Prop) (w0 : World) (hC : Cmps Tryz.prog g lb cf blk w0 ok) (eg : ∀ args w, (callFunc g args).run Tryz.prog w = .ok (.enter g args) w) (O : Ahead (ltC cf))
    (P B Q : List IntsV) (x : IntsV) (R : List Value) (w : World) (hG : GB w blk 23 (SL (P ++ x :: B ++ Q) R)) (hB : InRow (ltC cf) B) (hx : ok x) (hok : ∀ y ∈ B, ok y) (hK : Kept (fun b => b ≠ blk) w0 w) (ha : a = P.length) (hm : m = P.length + 1) (hb : b = P.length + 1 + B.length) (hlen : b ≤ len) (hl : len ≤ 1000000) :
    Calls Tryz.prog 110 #[.slice (some ⟨blk, 0, none⟩) len cap, .int .i64 a, .int .i64 m, .int .i64 b, .func (.func g) #[] lb] w fun e w' => e = .returned (.tuple #[]) ∧ GB w' blk 23 (SL (P ++ mg (ltC cf) [x] B ++ Q) R) ∧ Kept (fun b => b ≠ blk) w w' := by
  have hn1 := sl_n1 (i := 0) ha hm hb hlen hl
  have hw1 : wrap64 ((m : Int) - (a : Int)) = 1 := by unfold wrap64; omega
  have HG : Hid (GB w blk 23 (SL (P ++ x :: B ++ Q) R)) := hG
  have HC : Hid _ := hC
  have HO : Hid _ := hok
  have HX : Hid _ := hx
  have HB : Hid _ := hB
  have HK : Hid _ := hK
  have HA : Hid _ := And.intro ha (And.intro hm (And.intro hb (And.intro hlen hl)))
  have HN : Hid _ := hn1
  clear hG hC hok hx hB hK ha hm hb hlen hl hn1
  go_enter Tryz.func110, Tryz.ntmps110
  go_wp2
  simp only [hw1]
  clear hw1
  go_loopw [10, 11] (fun iv jv wr => ∃ (i j n : Nat) (B1 B2 B3 : List IntsV), iv = .int .i64 i ∧ jv = .int .i64 j ∧ i ≤ j ∧ j ≤ 1000000 ∧ wr = w.drewN n ∧ Hid (Found1 (ltC cf) x B m i j B1 B2 B3)) (fun iv jv _ => (intOf jv).toNat - (intOf iv).toNat)
  case atStart => exact ⟨m, b, 0, [], B, [], rfl, rfl, HN.out.2.2.2, HN.out.2.2.1, rfl, by simp, rfl, by have := HA.out; simp; omega, fun y hy => (by cases hy), fun y hy => (by cases hy)⟩
  case round =>
    obtain ⟨i, j, n, B1, B2, B3, rfl, rfl, hij, hj, rfl, HF⟩ := hrel
    by_cases hlt : i < j
    · have hh := half_le hlt
      obtain ⟨c, hc⟩ : ∃ c, c = (i + j) / 2 := ⟨_, rfl⟩
      rw [← hc] at hh
      have hcI : Hid _ := half_int hc
      clear hc
      obtain ⟨B4, z, B5, e2, ec, f1, f2⟩ := HF.out.step O HB.out hh
      have hBl : B.length = B1.length + (B4.length + (B5.length + 1)) + B3.length := HF.out.len e2
      have hn2 := sl_n2 HA.out.2.1 HA.out.2.2.1 HA.out.2.2.2.1 HA.out.2.2.2.2 hBl ec
      have ez : P ++ x :: B ++ Q = (P ++ x :: (B1 ++ B4)) ++ z :: (B5 ++ B3 ++ Q) := by rw [HF.out.eq, e2]; simp
      have kz := (HG.out.drewN n).at_mid ez (i := c) (by simp only [List.length_append, List.length_cons]; exact sl_n5 hn2.1)
      have kx := (HG.out.drewN n).at_mid (A := P) (C := B ++ Q) (x := x) (by simp) (i := a) HA.out.1
      have hz : ok z := HO.out z (by rw [HF.out.eq, e2]; simp)
      have hal := HN.out.2.1
      have hc1 := hn2.2.1
      have hc2 := hn2.2.2.1
      have hcz : ∀ q, Calls Tryz.prog g (#[z.val, x.val] ++ lb) ((w.drewN n).drewN q) fun e W' => e = .returned (.int .i64 (cf z x)) ∧ ∃ m, W' = ((w.drewN n).drewN q).drewN m := fun q => HC.out _ z x ((HK.out.trans (Kept.drewN _ _)).trans (Kept.drewN _ _)) hz HX.out
      have HF1 : Hid _ := f1
      have HF2 : Hid _ := f2
      have HEQ : Hid _ := HF.out.eq
      have HH : Hid _ := hh
      clear f1 f2 hn2 ez hz hBl e2 ec HF hh
      have HWQ : Hid (∃ n, ∀ q, (w.drewN n).drewN q = w.drewN (n + q)) := ⟨n, fun q => World.drewN_drewN _ _ _⟩
      obtain ⟨wq, hwq⟩ : ∃ wq, w.drewN n = wq := ⟨_, rfl⟩
      have HQ : Hid _ := hwq
      rw [hwq] at kz kx hcz ⊢
      clear hwq HWQ
      obtain ⟨xad, xcap, xxs⟩ := x
      obtain ⟨zad, zcap, zxs⟩ := z
      unfold IntsV.val at kz kx hcz
      simp only at kz kx hcz
      by_cases hlv : cf ⟨zad, zcap, zxs⟩ ⟨xad, xcap, xxs⟩ < 0
      · go_upto_region 5 with fail
        rw [hcI.out]
        go_quiet (first | (go_at_fn g; refine Calls.quiet_of (hcz _)))
        go_wp2
        go_roundw
        case rel => exact ⟨c + 1, j, n + nq, _, _, _, by go_num, rfl, HH.out.2, hj, by rw [← HQ.out, World.drewN_drewN], HF1.out (ltC_true hlv)⟩
        case measure => have := HH.out; simp [intOf]; omega
      · go_upto_region 5 with fail
        rw [hcI.out]
        go_quiet (first | (go_at_fn g; refine Calls.quiet_of (hcz _)))
        go_wp2
        go_roundw
        case rel => exact ⟨i, c, n + nq, _, _, _, rfl, rfl, HH.out.1, by have := HH.out; omega, by rw [← HQ.out, World.drewN_drewN], HF2.out (ltC_false hlv)⟩
        case measure => have := HH.out; simp [intOf]; omega
    · obtain rfl : i = j := by omega
      have h1 := HF.out.li
      have h2 := HF.out.lj
      obtain rfl : B2 = [] := List.eq_nil_of_length_eq_zero (by omega)
      have eB : B = B1 ++ B3 := by rw [HF.out.eq]; simp
      have hfin : mg (ltC cf) [x] B = B1 ++ x :: B3 := by rw [eB]; exact mg_first HF.out.lo HF.out.hi (by rw [← eB]; exact HB.out)
      have HFIN : Hid _ := hfin
      have hBl : B.length = B1.length + B3.length := by rw [eB]; simp
      have hi1 : 1 ≤ i ∧ i ≤ 1000000 := by have := HA.out; omega
      have hiw : wrap64 ((i : Int) - 1) = ((i - 1 : Nat) : Int) := by unfold wrap64; omega
      have hg0 : GB (w.drewN n) blk 23 (SL (P ++ [] ++ x :: B1 ++ B3 ++ Q) R) := by
        have h := HG.out.drewN n
        have e : P ++ [] ++ x :: B1 ++ B3 ++ Q = P ++ x :: B ++ Q := by rw [eB]; simp
        rw [e]; exact h
      have HG0 : Hid _ := hg0
      have HL : Hid _ := And.intro h1 hBl
      clear HF h1 h2 eB hfin hBl hg0 hj hij hlt
      have hkw : Kept (fun b => b ≠ blk) w (w.drewN n) := Kept.drewN _ _
      have HKW : Hid _ := hkw
      clear hkw
      obtain ⟨wq, hwq⟩ : ∃ wq, w.drewN n = wq := ⟨_, rfl⟩
      rw [hwq] at HG0 HKW ⊢
      clear hwq
      go_wp2
      go_loopw [13] (fun kv wr => ∃ (k : Nat) (C1 C2 : List IntsV), kv = .int .i64 k ∧ k ≤ i ∧ Hid (B1 = C1 ++ C2 ∧ k = a + C1.length ∧ GB wr blk 23 (SL (P ++ C1 ++ x :: C2 ++ B3 ++ Q) R) ∧ Kept (fun b => b ≠ blk) w wr)) (fun kv _ => i - (intOf kv).toNat)
      case atStart => exact ⟨a, [], B1, rfl, by have := HA.out; have := HL.out; omega, rfl, rfl, HG0.out, HKW.out⟩
      case round =>
        obtain ⟨k, C1, C2, rfl, hki, HJ⟩ := hrel
        obtain ⟨eC, ek, hg, hk⟩ := HJ.out
        cases C2 with
        | nil =>
          rw [List.append_nil] at eC
          have hn4 := sl_n4 HA.out.1 HA.out.2.1 HL.out.1
          rw [eC, ← ek] at hn4
          have hnk : ¬ ((k : Int) < ((i - 1 : Nat) : Int)) := by omega
          have hF : GB wr blk 23 (SL (P ++ (B1 ++ x :: B3) ++ Q) R) ∧ Kept (fun b => b ≠ blk) w wr := by
            refine ⟨?_, hk⟩
            have e : P ++ (B1 ++ x :: B3) ++ Q = P ++ C1 ++ x :: [] ++ B3 ++ Q := by rw [eC]; simp
            rw [e]; exact hg
          have HF : Hid _ := hF
          clear hF hg hk ek eC HJ hn4
          go_wp2
          refine bodyPost_ret (results_none rfl _ _ _) rfl ?_
          exact ⟨rfl, by rw [HFIN.out]; have h := HF.out.1; rw [List.append_assoc] at h; exact h, HF.out.2⟩
        | cons y C3 =>
          have hi3 : i = m + (C1.length + (C3.length + 1)) := by rw [HL.out.1, eC, List.length_append]; rfl
          have hB3 : B.length = C1.length + (C3.length + 1) + B3.length := by rw [HL.out.2, eC, List.length_append]; rfl
          have hn3 := sl_n3 HA.out.1 HA.out.2.1 hi3 HA.out.2.2.1 HA.out.2.2.2.1 HA.out.2.2.2.2 hB3
          rw [← ek] at hn3
          have e : P ++ C1 ++ x :: (y :: C3) ++ B3 ++ Q = (P ++ C1) ++ x :: [] ++ y :: (C3 ++ B3 ++ Q) := by simp
          have hs := hg.swapS e (i1 := k) (i2 := k + 1) (by rw [List.length_append]; exact hn3.2.1) (by rw [List.length_append]; exact hn3.2.2.1)
          have hkl : (k : Int) < ((i - 1 : Nat) : Int) := Int.ofNat_lt.2 hn3.1
          have h1 := hn3.2.2.2.1
          have h2 := hn3.2.2.2.2.1
          have HN3 : Hid _ := hn3
          have HKK : Hid _ := hk
          have HEC : Hid _ := eC
          obtain ⟨k1, hk1⟩ : ∃ k1, k1 = k + 1 := ⟨_, rfl⟩
          have hwk := (wrap_succ hk1 (Nat.le_trans hki hi1.2)).1
          have e0 := (wrap_succ hk1 (Nat.le_trans hki hi1.2)).2.1
          have e1 := (wrap_succ hk1 (Nat.le_trans hki hi1.2)).2.2
          have HK1 : Hid _ := hk1
          rw [← hk1] at hs h1
          obtain ⟨xad, xcap, xxs⟩ := x
          obtain ⟨yad, ycap, yxs⟩ := y
          have c1 := hs.c1
          have c2 := hs.c2
          have z1 := hs.z1
          have z2 := hs.z2
          have hne := hs.ne
          have hu := hs.up
          unfold IntsV.val at c1 c2 hu
          simp only at c1 c2 hu
          have HU : Hid _ := hu
          clear hs hu hg hk ek eC HJ hn3 e hk1 hi3 hB3
          go_wp2
          go_region
          have hu := HU.out
          clear HU
          generalize ((wr.setCell { block := blk, off := k } (Value.slice yad yxs.length ycap)).setCell { block := blk, off := k1 } (Value.slice xad xxs.length xcap)).drew = wf at *
          have HU : Hid _ := hu
          clear hu
          go_wp2
          go_roundw
          case rel =>
            refine ⟨k1, C1 ++ [IntsV.mk yad ycap yxs], C3, by first | rfl | (rw [e1]) | go_num, by rw [HK1.out]; exact (sl_n6 HN3.out.1), by rw [HEC.out, List.append_assoc]; rfl, by rw [HK1.out, List.length_append]; exact HN3.out.2.2.2.2.2.2.2, ?_, HKK.out.trans HU.out.2⟩
            have h := HU.out.1
            have e : P ++ (C1 ++ [IntsV.mk yad ycap yxs]) ++ IntsV.mk xad xcap xxs :: C3 ++ B3 ++ Q = P ++ C1 ++ IntsV.mk yad ycap yxs :: [] ++ IntsV.mk xad xcap xxs :: (C3 ++ B3 ++ Q) := by simp
            rw [e]
            exact h
          case measure => have h1 := HK1.out; have h2 := HN3.out.1; simp [intOf]; omega

end Go.Proofs.YtlpbelhfpoilpaaGreat

