import Derived.Test.YtlpbelhfpoilpaaGreatCSoFSoGSoH
set_option linter.all false
namespace Go.Scout
open Go.RowKit

/-- A list, sorted in pieces of a size. -/
def Chunked {α : Type} (lt : α → α → Bool) (bs : Nat) (L M : List α) : Prop :=
  ∀ P : List α → List α → Prop, (∀ L, L.length ≤ bs → P L (mg lt [] L)) → (∀ A L M, A.length = bs → P L M → P (A ++ L) (mg lt [] A ++ M)) → P L M

section
variable {α : Type} {lt : α → α → Bool} {bs : Nat}

theorem Chunked.last {L : List α} (h : L.length ≤ bs) : Chunked lt bs L (mg lt [] L) := fun _ h1 _ => h1 L h

theorem Chunked.more {A L M : List α} (h : A.length = bs) (k : Chunked lt bs L M) : Chunked lt bs (A ++ L) (mg lt [] A ++ M) := fun P h1 h2 => h2 A L M h (k P h1 h2)

theorem Chunked.apart {L M : List α} (h : Chunked lt bs L M) : (L.length ≤ bs ∧ M = mg lt [] L) ∨ ∃ A L' M', A.length = bs ∧ L = A ++ L' ∧ M = mg lt [] A ++ M' ∧ Chunked lt bs L' M' :=
  (h (fun L M => Chunked lt bs L M ∧ ((L.length ≤ bs ∧ M = mg lt [] L) ∨ ∃ A L' M', A.length = bs ∧ L = A ++ L' ∧ M = mg lt [] A ++ M' ∧ Chunked lt bs L' M'))
    (fun _ hl => ⟨Chunked.last hl, .inl ⟨hl, rfl⟩⟩) (fun A L M hA k => ⟨Chunked.more hA k.1, .inr ⟨A, L, M, hA, rfl, rfl, k.1⟩⟩)).2

theorem mg0_length (L : List α) : (mg lt [] L).length = L.length := by rw [mg_length]; simp

theorem Chunked.len {L M : List α} (h : Chunked lt bs L M) : M.length = L.length :=
  h (fun L M => M.length = L.length) (fun _ _ => mg0_length _) (fun A L M _ ih => by rw [List.length_append, List.length_append, ih, mg0_length])

theorem Chunked.mem {L M : List α} (h : Chunked lt bs L M) : ∀ x ∈ M, x ∈ L := by
  refine h (fun L M => ∀ x ∈ M, x ∈ L) ?_ ?_
  · intro L _ x hx
    rcases mg_mem.1 hx with h | h
    · cases h
    · exact h
  · intro A L M _ ih x hx
    rcases List.mem_append.1 hx with h | h
    · rcases mg_mem.1 h with h | h
      · cases h
      · exact List.mem_append.2 (Or.inl h)
    · exact List.mem_append.2 (Or.inr (ih x h))

theorem Chunked.nil_eq {L M : List α} (h : Chunked lt bs L M) (h0 : 0 < bs) (hL : L = []) : M = [] := by
  have h1 := h.len
  rw [hL] at h1
  exact List.eq_nil_of_length_eq_zero h1

theorem Chunked.small {L M : List α} (h : Chunked lt bs L M) (h0 : 0 < bs) (hl : L.length ≤ bs) : M = mg lt [] L := by
  rcases h.apart with ⟨_, h⟩ | ⟨A, L', M', hA, rfl, rfl, k⟩
  · exact h
  · rw [List.length_append] at hl
    have e : L' = [] := List.eq_nil_of_length_eq_zero (by omega)
    rw [k.nil_eq h0 e, e, List.append_nil, List.append_nil]

theorem Chunked.split {L M : List α} (h : Chunked lt bs L M) (hl : bs < L.length) : ∃ A L' M', L = A ++ L' ∧ A.length = bs ∧ M = mg lt [] A ++ M' ∧ Chunked lt bs L' M' := by
  rcases h.apart with ⟨h, _⟩ | ⟨A, L', M', hA, e1, e2, k⟩
  · omega
  · exact ⟨A, L', M', e1, hA, e2, k⟩

theorem Chunked.split2 {L M : List α} (h : Chunked lt bs L M) (h0 : 0 < bs) (hl : 2 * bs ≤ L.length) : ∃ A B L' M', L = A ++ B ++ L' ∧ A.length = bs ∧ B.length = bs ∧ M = mg lt [] A ++ mg lt [] B ++ M' ∧ Chunked lt bs L' M' := by
  obtain ⟨A, L1, M1, e1, l1, m1, k1⟩ := h.split (by omega)
  have hl1 : L.length = A.length + L1.length := by rw [e1, List.length_append]
  by_cases hb : bs < L1.length
  · obtain ⟨B, L2, M2, e2, l2, m2, k2⟩ := k1.split hb
    exact ⟨A, B, L2, M2, by rw [e1, e2, List.append_assoc], l1, l2, by rw [m1, m2, List.append_assoc], k2⟩
  · have e2 := k1.small h0 (by omega)
    refine ⟨A, L1, [], [], by rw [e1, List.append_nil], l1, by omega, by rw [m1, e2, List.append_nil], ?_⟩
    exact Chunked.last (L := []) (Nat.zero_le _)

/-- Two pieces that are sorted, put together. -/
theorem mg_two (O : Ahead lt) (A B : List α) : mg lt (mg lt [] A) (mg lt [] B) = mg lt [] (A ++ B) := by rw [mg_sorted O, mg_app]

theorem mg0_row (O : Ahead lt) (L : List α) : InRow lt (mg lt [] L) := mg_inrow O L List.Pairwise.nil

end

/-- What is done so far: of L the first part, in D. -/
def Done (lt : IntsV → IntsV → Bool) (bs : Nat) (L D L2 : List IntsV) : Prop := ∀ M, Chunked lt bs L2 M → Chunked lt bs L (D ++ M)

theorem Done.more {lt : IntsV → IntsV → Bool} {bs : Nat} {L D A L2 : List IntsV} (h : Done lt bs L D (A ++ L2)) (hA : A.length = bs) : Done lt bs L (D ++ mg lt [] A) L2 := fun M hM => by
  rw [List.append_assoc]
  exact h _ (Chunked.more hA hM)

theorem st_n1 {a d l2 n : Nat} (ha : a = d) (hn : n = d + l2) (h : a + 20 ≤ n) : 20 ≤ l2 := by omega
theorem st_n2 {a d l2 n : Nat} (ha : a = d) (hn : n = d + l2) (h : ¬ a + 20 ≤ n) : l2 ≤ 20 := by omega
theorem st_n3 {a d la l2 n len : Nat} (ha : a = d) (hla : la = 20) (hn : n = d + (la + l2)) (hl : n ≤ len) (hl' : len ≤ 1000000) : a + 20 = d + la ∧ a + 20 ≤ len ∧ wrap64 (((a + 20 : Nat) : Int) + 20) = ((a + 20 + 20 : Nat) : Int) ∧ n = d + la + l2 ∧ a ≤ n ∧ a + 20 ≤ n := by
  refine ⟨by omega, by omega, by unfold wrap64; omega, by omega, by omega, by omega⟩

end Go.Scout

namespace Go.Scout
open Go.RowKit

theorem so_1 {a b n d l2 : Nat} (hb : b = a + 20) (ha : a = d) (hn : n = d + l2) (h : b ≤ n) : 20 ≤ l2 := by omega
theorem so_2 {a b n d l2 : Nat} (hb : b = a + 20) (ha : a = d) (hn : n = d + l2) (h : ¬ b ≤ n) : l2 ≤ 20 := by omega
theorem so_3 {a b n d la l2 : Nat} (hb : b = a + 20) (ha : a = d) (hla : la = 20) (hn : n = d + (la + l2)) (h : b ≤ n) (hl : n ≤ 1000000) : b = d + la ∧ n = d + la + l2 ∧ b ≤ 1000000 ∧ n + 20 - (b + 20) < n + 20 - b := by omega
theorem so_4 {a b n d : Nat} (hb : b = a + 20) (h : a ≤ n) (hl : n ≤ 1000000) : a ≤ 1000000 ∧ b ≤ 1000020 := by omega
theorem so_5 {bs n : Nat} (h0 : 0 < bs) (h : bs < n) (hl : n ≤ 1000000) : 2 * (bs : Int) = ((2 * bs : Nat) : Int) ∧ 2 * bs ≤ 4000000 ∧ 0 < 2 * bs ∧ n + n - 2 * bs < n + n - bs ∧ wrap64 (2 * (bs : Int)) = ((2 * bs : Nat) : Int) ∧ (bs : Int) * 2 = ((2 * bs : Nat) : Int) ∧ wrap64 ((bs : Int) * 2) = ((2 * bs : Nat) : Int) := by
  refine ⟨by omega, by omega, by omega, by omega, by unfold wrap64; omega, by omega, by unfold wrap64; omega⟩
theorem intOf_n (b : Nat) : (intOf (.int .i64 (b : Int))).toNat = b := by simp [intOf]
theorem intOf_w {b : Nat} (h : wrap64 (b : Int) = (b : Int)) : (intOf (.int .i64 (wrap64 (b : Int)))).toNat = b := by rw [h]; exact intOf_n b
theorem wrap_id {k : Nat} (h : k ≤ 8000000) : wrap64 (k : Int) = (k : Int) := by unfold wrap64; omega
theorem nat_m1 {m1 b : Nat} (h : m1 ≤ b) (hb : b ≤ 1000000) : m1 ≤ 8000000 := by omega
theorem so_m1 {a b b2 bs m1 : Nat} (h : b = a + b2) (h2 : b2 = 2 * bs) (hm : m1 = a + bs) : m1 ≤ b := by omega
theorem nat_48 {x : Nat} (h : x ≤ 4000000) : x ≤ 8000000 := by omega
theorem nat_2040 : (0 < 20) ∧ 20 ≤ 4000000 := by omega
theorem nat_nlt {x y : Nat} (h : ¬ x < y) : y ≤ x := by omega
theorem so_6 {a b n d l2 bs b2 : Nat} (hb2 : b2 = 2 * bs) (hb : b = a + b2) (ha : a = d) (hn : n = d + l2) (h : b ≤ n) : 2 * bs ≤ l2 := by omega
theorem so_7 {a b n d l2 bs b2 m1 la lb : Nat} (hb2 : b2 = 2 * bs) (hb : b = a + b2) (ha : a = d) (hla : la = bs) (hlb : lb = bs) (hn : n = d + (la + lb + l2)) (h : b ≤ n) (hl : n ≤ 1000000) (hm : m1 = a + bs) (hb4 : b2 ≤ 4000000) (h0 : 0 < bs) :
    m1 = d + la ∧ b = d + la + lb ∧ n = d + (la + lb) + l2 ∧ (a : Int) + (bs : Int) = (m1 : Int) ∧ wrap64 ((a : Int) + (bs : Int)) = (m1 : Int) ∧ (b : Int) + (b2 : Int) = ((b + b2 : Nat) : Int) ∧ wrap64 ((b : Int) + (b2 : Int)) = ((b + b2 : Nat) : Int) ∧ b ≤ 1000000 ∧ b + b2 ≤ 8000000 ∧ n + b2 - (b + b2) < n + b2 - b := by
  refine ⟨by omega, by omega, by omega, by omega, by unfold wrap64; omega, by omega, by unfold wrap64; omega, by omega, by omega, by omega⟩
theorem so_8 {a b n d l2 bs b2 m1 : Nat} (hb2 : b2 = 2 * bs) (hb : b = a + b2) (ha : a = d) (hn : n = d + l2) (h : ¬ b ≤ n) (hl : n ≤ 1000000) (hm : m1 = a + bs) (hb4 : b2 ≤ 4000000) : (a : Int) + (bs : Int) = (m1 : Int) ∧ wrap64 ((a : Int) + (bs : Int)) = (m1 : Int) ∧ l2 ≤ 2 * bs ∧ (m1 < n → bs < l2) ∧ (¬ m1 < n → l2 ≤ bs) ∧ m1 ≤ 8000000 ∧ n = d + l2 := by
  refine ⟨by omega, by unfold wrap64; omega, by omega, fun h => by omega, fun h => by omega, by omega, hn⟩
theorem so_9 {la bs l2 l3 d m1 a n : Nat} (hla : la = bs) (h2 : l2 = la + l3) (hl : bs < l2) (hl2 : l2 ≤ 2 * bs) (ha : a = d) (hm : m1 = a + bs) (hn : n = d + l2) : l3 ≤ bs ∧ 0 < l3 ∧ m1 = d + la ∧ n = d + la + l3 := by omega

end Go.Scout
namespace Go.Proofs.YtlpbelhfpoilpaaGreat
open Go.RowKit Go.Scout

set_option maxRecDepth 20000 in
set_option maxHeartbeats 4000000 in
theorem stable_any (blk cap n g : Nat) (lb : Array Value) (cf : IntsV → IntsV → Int) (ok : IntsV → Prop) (w0 : World) (hC : Cmps Tryz.prog g lb cf blk w0 ok) (eg : ∀ args w, (callFunc g args).run Tryz.prog w = .ok (.enter g args) w) (O : Ahead (ltC cf))
    (L : List IntsV) (R : List Value) (w : World) (hG : GB w blk 23 (SL L R)) (hok : ∀ x ∈ L, ok x) (hK : Kept (fun b => b ≠ blk) w0 w) (hn : n = L.length) (hl : n ≤ 1000000) :
    Calls Tryz.prog 103 #[.slice (some ⟨blk, 0, none⟩) n cap, .int .i64 n, .func (.func g) #[] lb] w fun e w' => e = .returned (.tuple #[]) ∧ GB w' blk 23 (SL (mg (ltC cf) [] L) R) ∧ Kept (fun b => b ≠ blk) w w' := by
  have HG : Hid (GB w blk 23 (SL L R)) := hG
  have HC : Hid _ := hC
  have HO : Hid _ := hok
  have HK : Hid _ := hK
  have HN : Hid _ := hn
  clear hG hC hok hK hn
  go_enter Tryz.func103, Tryz.ntmps103
  go_wp2
  go_loopw [7, 8] (fun av bv wr => ∃ (a b : Nat) (D L1 L2 : List IntsV), av = .int .i64 a ∧ bv = .int .i64 b ∧ a ≤ n ∧ Hid (b = a + 20 ∧ a = D.length ∧ n = D.length + L2.length ∧ L = L1 ++ L2 ∧ Done (ltC cf) 20 L D L2 ∧ GB wr blk 23 (SL (D ++ L2) R) ∧ Kept (fun b => b ≠ blk) w wr)) (fun av bv _ => n + 20 - (intOf bv).toNat)
  case atStart => exact ⟨0, 20, [], [], L, rfl, rfl, Nat.zero_le _, rfl, rfl, by rw [HN.out]; simp, rfl, fun M hM => hM, HG.out, Kept.refl _ _⟩
  case round =>
    obtain ⟨a, b, D, L1, L2, rfl, rfl, han, HI⟩ := hrel
    obtain ⟨eb, ea, en, eL, hD, hg, hk⟩ := HI.out
    have hab := so_4 (d := 0) eb han hl
    by_cases hbn : b ≤ n
    · obtain ⟨A, L3, e2, lA, -⟩ := split_at L2 20 (so_1 eb ea en hbn)
      have en' : n = D.length + (A.length + L3.length) := by rw [en, e2, List.length_append]
      have h3 := so_3 eb ea lA en' hbn hl
      have hg' : GB wr blk 23 (SL (D ++ A ++ L3) R) := by rw [e2, ← List.append_assoc] at hg; exact hg
      have hcall := insertion_any blk cap n a b g lb cf ok w0 HC.out eg D A L3 R wr hg' (fun x hx => HO.out x (by rw [eL, e2]; simp [hx])) (HK.out.trans hk) ea h3.1 hbn hl
      have hD' : Done (ltC cf) 20 L (D ++ mg (ltC cf) [] A) L3 := by rw [e2] at hD; exact hD.more lA
      have HD : Hid _ := hD'
      have HKK : Hid _ := hk
      have HF : Hid (n = (D ++ mg (ltC cf) [] A).length + L3.length ∧ L = (L1 ++ A) ++ L3 ∧ b = (D ++ mg (ltC cf) [] A).length ∧ n + 20 - (b + 20) < n + 20 - b) := ⟨by rw [List.length_append, mg0_length]; exact h3.2.1, by rw [eL, e2, List.append_assoc], by rw [List.length_append, mg0_length]; exact h3.1, h3.2.2.2⟩
      clear HI eb ea en eL hD hg hk e2 lA en' h3 hg' hD'
      go_wp2_with fail
      refine hcall.mono ?_
      rintro e w2 ⟨rfl, hg2, hk2⟩
      clear hcall
      have HG2 : Hid _ := hg2
      have HK2 : Hid _ := hk2
      clear hg2 hk2
      go_wp2
      go_roundw
      case rel => exact ⟨b, b + 20, D ++ mg (ltC cf) [] A, L1 ++ A, L3, rfl, rfl, hbn, rfl, HF.out.2.2.1, HF.out.1, HF.out.2.1, HD.out, HG2.out, HKK.out.trans HK2.out⟩
      case measure =>
        have ec : (b : Int) + 20 = ((b + 20 : Nat) : Int) := rfl
        simp only [intOf, ec, Int.toNat_natCast]
        exact HF.out.2.2.2
    · have hl2 := so_2 eb ea en hbn
      have hcall := insertion_any blk cap n a n g lb cf ok w0 HC.out eg D L2 [] R wr (by rw [List.append_nil]; exact hg) (fun x hx => HO.out x (by rw [eL]; simp [hx])) (HK.out.trans hk) ea en (Nat.le_refl _) hl
      have hM : Chunked (ltC cf) 20 L (D ++ mg (ltC cf) [] L2) := hD _ (Chunked.last hl2)
      have HM : Hid _ := hM
      have HKK : Hid _ := hk
      clear HI eb ea en eL hD hg hk hl2 hM
      go_wp2_with fail
      refine hcall.mono ?_
      rintro e w2 ⟨rfl, hg2, hk2⟩
      clear hcall
      rw [List.append_nil] at hg2
      have HG2 : Hid _ := hg2
      have HK2 : Hid (Kept (fun b => b ≠ blk) w w2) := HKK.out.trans hk2
      clear hg2 hk2 HKK
      go_wp2
      go_loopw [6] (fun sv wr => ∃ (bs : Nat) (M : List IntsV), sv = .int .i64 bs ∧ 0 < bs ∧ bs ≤ 4000000 ∧ Hid (Chunked (ltC cf) bs L M ∧ GB wr blk 23 (SL M R) ∧ Kept (fun b => b ≠ blk) w wr)) (fun sv _ => n + n - (intOf sv).toNat)
      case atStart => exact ⟨20, D ++ mg (ltC cf) [] L2, rfl, nat_2040.1, nat_2040.2, HM.out, HG2.out, HK2.out⟩
      case round =>
        clear HM HG2 HK2
        obtain ⟨bs, M, rfl, hb0, hb4, HI⟩ := hrel
        obtain ⟨hM, hg, hk⟩ := HI.out
        by_cases hbs : bs < n
        · obtain ⟨hx1, hx2, hx3, hx4, hx5, hx6, hx7⟩ := so_5 hb0 hbs hl
          obtain ⟨b2, hb2⟩ : ∃ b2, b2 = 2 * bs := ⟨_, rfl⟩
          rw [← hb2] at hx1 hx2 hx3 hx4 hx5 hx6 hx7
          have HB2 : Hid _ := hb2
          have HM : Hid _ := hM
          have HGM : Hid (GB wr blk 23 (SL M R) ∧ Kept (fun b => b ≠ blk) w wr) := ⟨hg, hk⟩
          have HX4 : Hid _ := hx4
          clear hM hg hk HI hb2 hx4
          go_wp2
          go_loopw [7, 8] (fun av bv wr2 => ∃ (a b : Nat) (D L1 L2 M2 : List IntsV), av = .int .i64 a ∧ bv = .int .i64 b ∧ a ≤ n ∧ b ≤ 8000000 ∧ Hid (b = a + b2 ∧ a = D.length ∧ n = D.length + L2.length ∧ L = L1 ++ L2 ∧ Done (ltC cf) b2 L D L2 ∧ Chunked (ltC cf) bs L2 M2 ∧ GB wr2 blk 23 (SL (D ++ M2) R) ∧ Kept (fun b => b ≠ blk) w wr2)) (fun av bv _ => n + b2 - (intOf bv).toNat)
          case atStart => exact ⟨0, b2, [], [], L, M, rfl, rfl, Nat.zero_le _, nat_48 hx2, (Nat.zero_add _).symm, rfl, by rw [HN.out]; simp, rfl, fun M hM => hM, HM.out, HGM.out.1, HGM.out.2⟩
          case round =>
            have HX1 : Hid (2 * (bs : Int) = (b2 : Int) ∧ wrap64 (2 * (bs : Int)) = (b2 : Int)) := ⟨hx1, hx5⟩
            have HX6 : Hid ((bs : Int) * 2 = (b2 : Int) ∧ wrap64 ((bs : Int) * 2) = (b2 : Int)) := ⟨hx6, hx7⟩
            clear hx1 hx5 hx6 hx7
            obtain ⟨a, b, D, L1, L2, M2, rfl, rfl, han, hb8, HI⟩ := hrel
            obtain ⟨eb, ea, en, eL, hD, hM2, hg, hk⟩ := HI.out
            obtain ⟨m1, hm1⟩ : ∃ m1, m1 = a + bs := ⟨_, rfl⟩
            have hmem : ∀ x ∈ L2, ok x := fun x hx => HO.out x (by rw [eL]; simp [hx])
            by_cases hbn : b ≤ n
            · obtain ⟨A, B, L3, M3, e2, lA, lB, em, hM3⟩ := hM2.split2 hb0 (so_6 HB2.out eb ea en hbn)
              have en' : n = D.length + (A.length + B.length + L3.length) := by rw [en, e2]; simp only [List.length_append]
              obtain ⟨h1, h2, h3, h4, h5, h6, h7, h8, h9, h10⟩ := so_7 HB2.out eb ea lA lB en' hbn hl hm1 hx2 hb0
              obtain ⟨b3, hb3⟩ : ∃ b3, b3 = b + b2 := ⟨_, rfl⟩
              rw [← hb3] at h6 h7 h9 h10
              have HB3 : Hid _ := hb3
              clear hb3
              have hg' : GB wr blk 23 (SL (D ++ mg (ltC cf) [] A ++ mg (ltC cf) [] B ++ M3) R) := by
                have e : D ++ mg (ltC cf) [] A ++ mg (ltC cf) [] B ++ M3 = D ++ M2 := by rw [em]; simp
                rw [e]; exact hg
              have hcall := symMerge_any _ blk cap n a m1 b g lb cf ok w0 HC.out eg O D (mg (ltC cf) [] A) (mg (ltC cf) [] B) M3 R wr hg' (mg0_row O A) (mg0_row O B) (fun x hx => hmem x (by rw [e2]; rcases mg_mem.1 hx with h | h; cases h; simp [h])) (fun x hx => hmem x (by rw [e2]; rcases mg_mem.1 hx with h | h; cases h; simp [h])) (HK.out.trans hk) ea (by rw [mg0_length]; exact h1) (by rw [mg0_length, mg0_length]; exact h2) hbn hl (by rw [mg0_length, lA]; exact hb0) (by rw [mg0_length, lB]; exact hb0) (Nat.le_refl _)
              rw [mg_two O] at hcall
              have hD' : Done (ltC cf) b2 L (D ++ mg (ltC cf) [] (A ++ B)) L3 := by rw [e2] at hD; exact hD.more (by rw [List.length_append, lA, lB, HB2.out, Nat.two_mul])
              have HD : Hid _ := hD'
              have HKK : Hid _ := hk
              have HM3 : Hid _ := hM3
              have HF : Hid (n = (D ++ mg (ltC cf) [] (A ++ B)).length + L3.length ∧ L = (L1 ++ (A ++ B)) ++ L3 ∧ b = (D ++ mg (ltC cf) [] (A ++ B)).length) := ⟨by rw [List.length_append, mg0_length, List.length_append]; exact h3, by rw [eL, e2, List.append_assoc, List.append_assoc, List.append_assoc], by rw [List.length_append, mg0_length, List.length_append, ← Nat.add_assoc]; exact h2⟩
              have HH10 : Hid _ := h10
              have hm1' := so_m1 eb HB2.out hm1
              clear HI eb ea en eL hD hg hk e2 lA lB em en' hg' hD' hM2 hM3 h1 h2 h3 h10 hm1 hmem
              have HH6 : Hid ((b : Int) + (b2 : Int) = (b3 : Int) ∧ wrap64 (b3 : Int) = (b3 : Int) ∧ wrap64 (b2 : Int) = (b2 : Int)) := ⟨h6, wrap_id h9, wrap_id (nat_48 hx2)⟩
              have hmw : wrap64 (m1 : Int) = (m1 : Int) := wrap_id (nat_m1 hm1' h8)
              have HH9 : Hid _ := h9
              have HBN : Hid _ := hbn
              clear h6 h7 h9 hb8 hx2 hx3 hb4 hb0 hbs h8 han hab h5 hm1'
              have hbn'' : (b : Int) ≤ (n : Int) := Int.ofNat_le.2 HBN.out
              clear hbn
              go_wp2_with fail
              refine hcall.mono ?_
              rintro e w2 ⟨rfl, hg2, hk2⟩
              clear hcall
              have HG2 : Hid _ := hg2
              have HK2 : Hid _ := hk2
              clear hg2 hk2 h4 hbn'' hmw
              have hx1 := HX1.out.1
              obtain ⟨h6, hw3, hw2⟩ := HH6.out
              go_wp2
              go_roundw
              case rel => exact ⟨b, b3, D ++ mg (ltC cf) [] (A ++ B), L1 ++ (A ++ B), L3, M3, rfl, congrArg (Value.int .i64) hw3, HBN.out, HH9.out, HB3.out, HF.out.2.2, HF.out.1, HF.out.2.1, HD.out, HM3.out, HG2.out, HKK.out.trans HK2.out⟩
              case measure =>
                rw [intOf_w hw3, intOf_n]
                exact HH10.out
            · obtain ⟨h4, h5, hl2, hs1, hs2, hm8, -⟩ := so_8 HB2.out eb ea en hbn hl hm1 hx2
              have hfin : Chunked (ltC cf) b2 L (D ++ mg (ltC cf) [] L2) := hD _ (Chunked.last (by rw [HB2.out]; exact hl2))
              have HFIN : Hid _ := hfin
              by_cases hmn : m1 < n
              · obtain ⟨A, L3, M3, e2, lA, em, hM3⟩ := hM2.split (hs1 hmn)
                have e2l : L2.length = A.length + L3.length := by rw [e2, List.length_append]
                obtain ⟨t1, t2, t3, t4⟩ := so_9 lA e2l (hs1 hmn) hl2 ea hm1 en
                have em3 := hM3.small hb0 t1
                have hg' : GB wr blk 23 (SL (D ++ mg (ltC cf) [] A ++ mg (ltC cf) [] L3 ++ []) R) := by
                  have e : D ++ mg (ltC cf) [] A ++ mg (ltC cf) [] L3 ++ [] = D ++ M2 := by rw [em, em3]; simp
                  rw [e]; exact hg
                have hcall := symMerge_any _ blk cap n a m1 n g lb cf ok w0 HC.out eg O D (mg (ltC cf) [] A) (mg (ltC cf) [] L3) [] R wr hg' (mg0_row O A) (mg0_row O L3) (fun x hx => hmem x (by rw [e2]; rcases mg_mem.1 hx with h | h; cases h; simp [h])) (fun x hx => hmem x (by rw [e2]; rcases mg_mem.1 hx with h | h; cases h; simp [h])) (HK.out.trans hk) ea (by rw [mg0_length]; exact t3) (by rw [mg0_length, mg0_length]; exact t4) (Nat.le_refl _) hl (by rw [mg0_length, lA]; exact hb0) (by rw [mg0_length]; exact t2) (Nat.le_refl _)
                rw [mg_two O, ← e2, List.append_nil] at hcall
                have HKK : Hid _ := hk
                clear HI eb ea en eL hD hg hk e2 lA em hg' hM2 hM3 em3 e2l t1 t2 t3 t4 hs1 hs2 hm1 hmem hfin hl2
                go_wp2_with fail
                refine hcall.mono ?_
                rintro e w2 ⟨rfl, hg2, hk2⟩
                clear hcall
                have HG2 : Hid _ := hg2
                have HK2 : Hid _ := hk2
                clear hg2 hk2
                obtain ⟨hx6, hx7⟩ := HX6.out
                go_wp2
                go_roundw
                case rel => exact ⟨b2, D ++ mg (ltC cf) [] L2, by first | rfl | rw [hx6], hx3, hx2, HFIN.out, HG2.out, HKK.out.trans HK2.out⟩
                case measure =>
                  simp only [intOf, hx6, Int.toNat_natCast]
                  exact HX4.out
              · have em := hM2.small hb0 (hs2 hmn)
                have hg' : GB wr blk 23 (SL (D ++ mg (ltC cf) [] L2) R) := by rw [← em]; exact hg
                have HG2 : Hid _ := hg'
                have HK2 : Hid _ := hk
                clear HI eb ea en eL hD hg hk em hg' hM2 hs1 hs2 hm1 hmem hfin hl2
                obtain ⟨hx6, hx7⟩ := HX6.out
                go_wp2
                go_roundw
                case rel => exact ⟨b2, D ++ mg (ltC cf) [] L2, by first | rfl | rw [hx6], hx3, hx2, HFIN.out, HG2.out, HK2.out⟩
                case measure =>
                  simp only [intOf, hx6, Int.toNat_natCast]
                  exact HX4.out
        · have em := hM.small hb0 (by rw [← HN.out]; exact nat_nlt hbs)
          have HF : Hid (GB wr blk 23 (SL (mg (ltC cf) [] L) R) ∧ Kept (fun b => b ≠ blk) w wr) := ⟨by rw [← em]; exact hg, hk⟩
          clear HI hM hg hk em
          go_wp2
          go_end0
          exact ⟨rfl, HF.out⟩

end Go.Proofs.YtlpbelhfpoilpaaGreat

namespace Go.Scout
open Go.RowKit

/-- Which of two values is ahead: Null ahead of all others. -/
def cmpV (a b : Int) : Int := if a = b then 0 else if a = 1073741824 then -1 else if b = 1073741824 then 1 else if a < b then -1 else 1
/-- Which of two rows is ahead, by places. -/
def cmpL (xs ys : List Int) : List Int → Int
  | [] => 0
  | p :: ps => if cmpV (xs.getD p.toNat 0) (ys.getD p.toNat 0) = 0 then cmpL xs ys ps else cmpV (xs.getD p.toNat 0) (ys.getD p.toNat 0)
def ltL (ps xs ys : List Int) : Bool := decide (cmpL xs ys ps < 0)
/-- Rows sorted by places. -/
def sortN (ps : List Int) (rows : List (List Int)) : List (List Int) := mg (ltL ps) [] rows

theorem cmpV_zero {a b : Int} : cmpV a b = 0 ↔ a = b := by
  unfold cmpV
  constructor
  · intro h
    by_cases e : a = b
    · exact e
    · rw [if_neg e] at h
      split at h
      · omega
      · split at h
        · omega
        · split at h <;> omega
  · intro h
    rw [if_pos h]
theorem cmpV_neg (a b : Int) : cmpV b a = - cmpV a b := by
  unfold cmpV
  repeat' split
  all_goals omega
theorem cmpV_le {a b c : Int} (h1 : cmpV a b ≤ 0) (h2 : cmpV b c ≤ 0) : cmpV a c ≤ 0 := by
  unfold cmpV at *
  repeat' split at h1
  all_goals repeat' split at h2
  all_goals repeat' split
  all_goals omega
theorem cmpV_lt {a b c : Int} (h1 : cmpV a b ≤ 0) (h2 : cmpV b c ≤ 0) (h : cmpV a b ≠ 0 ∨ cmpV b c ≠ 0) : cmpV a c < 0 := by
  have h3 := cmpV_le h1 h2
  rcases Int.lt_or_eq_of_le h3 with h4 | h4
  · exact h4
  · have e := cmpV_zero.1 h4
    subst e
    have h5 := cmpV_neg a b
    omega

theorem cmpL_neg (xs ys : List Int) : ∀ ps, cmpL ys xs ps = - cmpL xs ys ps
  | [] => rfl
  | p :: ps => by
    unfold cmpL
    rw [cmpV_neg, cmpL_neg xs ys ps]
    split
    · rename_i h
      rw [if_pos (by omega)]
    · rename_i h
      rw [if_neg (by omega)]
theorem cmpL_le {xs ys zs : List Int} : ∀ {ps}, cmpL xs ys ps ≤ 0 → cmpL ys zs ps ≤ 0 → cmpL xs zs ps ≤ 0
  | [], _, _ => by unfold cmpL; omega
  | p :: ps, h1, h2 => by
    unfold cmpL at h1 h2 ⊢
    generalize xs.getD p.toNat 0 = a at *
    generalize ys.getD p.toNat 0 = b at *
    generalize zs.getD p.toNat 0 = c at *
    by_cases e1 : cmpV a b = 0
    · by_cases e2 : cmpV b c = 0
      · have e3 : cmpV a c = 0 := by rw [cmpV_zero] at *; omega
        rw [if_pos e1] at h1
        rw [if_pos e2] at h2
        rw [if_pos e3]
        exact cmpL_le h1 h2
      · rw [if_neg e2] at h2
        have := cmpV_lt (a := a) (by omega) h2 (Or.inr e2)
        rw [if_neg (by omega)]
        omega
    · rw [if_neg e1] at h1
      have h3 : cmpV b c ≤ 0 := by
        by_cases e2 : cmpV b c = 0
        · omega
        · rw [if_neg e2] at h2; exact h2
      have := cmpV_lt h1 h3 (Or.inl e1)
      rw [if_neg (by omega)]
      omega
theorem cmpL_lt {xs ys zs : List Int} {ps : List Int} (h1 : cmpL xs ys ps < 0) (h2 : cmpL ys zs ps < 0) : cmpL xs zs ps < 0 := by
  have h3 := cmpL_le (xs := xs) (ys := ys) (zs := zs) (ps := ps) (by omega) (by omega)
  rcases Int.lt_or_eq_of_le h3 with h4 | h4
  · exact h4
  · have h5 := cmpL_neg xs zs ps
    have h6 := cmpL_le (xs := ys) (ys := zs) (zs := xs) (ps := ps) (by omega) (by omega)
    have h7 := cmpL_neg xs ys ps
    have h8 := cmpL_le (xs := zs) (ys := xs) (zs := ys) (ps := ps) (by omega) (by omega)
    have h9 := cmpL_neg ys zs ps
    omega

theorem ltL_ahead (ps : List Int) : Ahead (ltL ps) := by
  refine ⟨fun {x y} h => ?_, fun {x y z} h1 h2 => ?_, fun {x y z} h1 h2 => ?_⟩
  · unfold ltL at *
    rw [decide_eq_true_eq] at h
    rw [decide_eq_false_iff_not, cmpL_neg]
    omega
  · unfold ltL at *
    rw [decide_eq_true_eq] at *
    exact cmpL_lt h1 h2
  · unfold ltL at *
    rw [decide_eq_false_iff_not] at *
    have e1 := cmpL_neg x y ps
    have e2 := cmpL_neg y z ps
    have e3 := cmpL_neg x z ps
    have := cmpL_le (xs := x) (ys := y) (zs := z) (ps := ps) (by omega) (by omega)
    omega

section
variable {α β : Type} {lt : α → α → Bool} {lt' : β → β → Bool} {f : α → β}

theorem insRev_map (h : ∀ a b, lt a b = lt' (f a) (f b)) (x : α) : ∀ r, (insRev lt x r).map f = insRev lt' (f x) (r.map f)
  | [] => rfl
  | y :: r => by
    show (if lt x y = true then y :: insRev lt x r else x :: y :: r).map f = (if lt' (f x) (f y) = true then f y :: insRev lt' (f x) (r.map f) else f x :: f y :: r.map f)
    rw [← h]
    split
    · rw [List.map_cons, insRev_map h x r]
    · rfl
theorem insR_map (h : ∀ a b, lt a b = lt' (f a) (f b)) (x : α) (r : List α) : (insR lt x r).map f = insR lt' (f x) (r.map f) := by
  unfold insR
  rw [List.map_reverse, insRev_map h, List.map_reverse]
theorem mg_map (h : ∀ a b, lt a b = lt' (f a) (f b)) : ∀ (B A : List α), (mg lt A B).map f = mg lt' (A.map f) (B.map f)
  | [], A => rfl
  | b :: B, A => by
    rw [mg_cons, mg_map h B, insR_map h, List.map_cons, mg_cons]
end

theorem ltC_ahead (ps : List Int) : Ahead (ltC fun x y : IntsV => cmpL x.xs y.xs ps) := by
  have O := ltL_ahead ps
  exact ⟨fun h => O.asymm h, fun h1 h2 => O.trans h1 h2, fun h1 h2 => O.ntrans h1 h2⟩
theorem sortN_of (ps : List Int) (ys : List IntsV) : (mg (ltC fun x y : IntsV => cmpL x.xs y.xs ps) [] ys).map IntsV.xs = sortN ps (ys.map IntsV.xs) :=
  mg_map (f := IntsV.xs) (lt' := ltL ps) (fun _ _ => rfl) ys []
theorem sortN_none (rows : List (List Int)) : sortN [] rows = rows := by
  unfold sortN
  rw [mg_row (lt := ltL [])]
  · rfl
  · refine List.pairwise_of_forall ?_
    intro a b; rfl
  · intro b _ a ha; cases ha
theorem sortN_mem {ps : List Int} {rows : List (List Int)} {r : List Int} : r ∈ sortN ps rows ↔ r ∈ rows := by
  unfold sortN
  rw [mg_mem]
  simp
theorem sortN_len (ps : List Int) (rows : List (List Int)) : (sortN ps rows).length = rows.length := by
  unfold sortN
  rw [mg_length]
  simp

theorem cmpL_stop {xs ys ps : List Int} {k : Nat} (hk : k < ps.length) (h : ∀ j, j < k → cmpV (xs.getD (ps.getD j 0).toNat 0) (ys.getD (ps.getD j 0).toNat 0) = 0) : cmpL xs ys ps = cmpL xs ys (ps.drop k) := by
  induction k generalizing ps with
  | zero => rfl
  | succ k ih =>
    cases ps with
    | nil => simp at hk
    | cons p ps =>
      rw [List.drop_succ_cons, ← ih (by simpa using hk) (fun j hj => by have := h (j + 1) (by omega); simpa using this)]
      have h0 := h 0 (by omega)
      simp only [List.getD_cons_zero] at h0
      exact if_pos h0
theorem cmpL_at {xs ys ps : List Int} {k : Nat} (hk : k < ps.length) (h : ∀ j, j < k → cmpV (xs.getD (ps.getD j 0).toNat 0) (ys.getD (ps.getD j 0).toNat 0) = 0) (h0 : cmpV (xs.getD (ps.getD k 0).toNat 0) (ys.getD (ps.getD k 0).toNat 0) ≠ 0) :
    cmpL xs ys ps = cmpV (xs.getD (ps.getD k 0).toNat 0) (ys.getD (ps.getD k 0).toNat 0) := by
  have e : ps.getD k 0 = ps[k] := by simp [List.getD, hk]
  rw [cmpL_stop hk h, List.drop_eq_getElem_cons hk]
  rw [e] at h0 ⊢
  exact if_neg h0
theorem cmpL_end {xs ys : List Int} : ∀ {ps : List Int}, (∀ j, j < ps.length → cmpV (xs.getD (ps.getD j 0).toNat 0) (ys.getD (ps.getD j 0).toNat 0) = 0) → cmpL xs ys ps = 0
  | [], _ => rfl
  | p :: ps, h => by
    have h0 := h 0 (by simp)
    simp only [List.getD_cons_zero] at h0
    have : cmpL xs ys (p :: ps) = cmpL xs ys ps := if_pos h0
    rw [this]
    exact cmpL_end fun j hj => by have := h (j + 1) (by simpa using hj); simpa using this

end Go.Scout
namespace Go.Proofs.YtlpbelhfpoilpaaGreat
open Go.RowKit Go.Scout

set_option maxRecDepth 20000 in
set_option maxHeartbeats 2000000 in
theorem compareValues_any (a b : Int) (w : World) : Calls Tryz.prog 104 #[.int .i64 a, .int .i64 b] w fun e w' => e = .returned (.int .i64 (cmpV a b)) ∧ w' = w := by
  unfold cmpV
  by_cases h1 : a = b
  · rw [if_pos h1]
    have e1 : (a == b) = true := by simpa using h1
    go_enter Tryz.func104, Tryz.ntmps104
    go_wp2
    go_ret
    exact ⟨rfl, rfl⟩
  · rw [if_neg h1]
    have e1 : (a == b) = false := by simpa using h1
    by_cases h2 : a = 1073741824
    · rw [if_pos h2]
      have e2 : (a == 1073741824) = true := by simpa using h2
      clear h2
      go_enter Tryz.func104, Tryz.ntmps104
      go_wp2
      go_ret
      exact ⟨rfl, rfl⟩
    · rw [if_neg h2]
      have e2 : (a == 1073741824) = false := by simpa using h2
      by_cases h3 : b = 1073741824
      · rw [if_pos h3]
        have e3 : (b == 1073741824) = true := by simpa using h3
        clear h3
        go_enter Tryz.func104, Tryz.ntmps104
        go_wp2
        go_ret
        exact ⟨rfl, rfl⟩
      · rw [if_neg h3]
        have e3 : (b == 1073741824) = false := by simpa using h3
        by_cases h4 : a < b
        · rw [if_pos h4]
          go_enter Tryz.func104, Tryz.ntmps104
          go_wp2
          go_ret
          exact ⟨rfl, rfl⟩
        · rw [if_neg h4]
          go_enter Tryz.func104, Tryz.ntmps104
          go_wp2
          go_ret
          exact ⟨rfl, rfl⟩

set_option maxRecDepth 20000 in
set_option maxHeartbeats 4000000 in
theorem compareRows_any (x y c : IntsV) (w : World) (hx : x.At w) (hy : y.At w) (hc : c.At w) (ax : allB c.xs x.xs.length = true) (ay : allB c.xs y.xs.length = true) :
    Calls Tryz.prog 92 #[x.val, y.val, c.val] w fun e w' => e = .returned (.int .i64 (cmpL x.xs y.xs c.xs)) ∧ ∃ m, w' = w.drewN m := by
  obtain ⟨xad, xcap, xs⟩ := x
  obtain ⟨yad, ycap, ys⟩ := y
  obtain ⟨cad, ccap, cs⟩ := c
  unfold IntsV.val IntsV.At at *
  simp only at *
  have hl := hc.1
  have hlx := hx.1
  have hly := hy.1
  have HX : Hid _ := hx
  have HY : Hid _ := hy
  have HC : Hid _ := hc
  have HA : Hid _ := And.intro ax ay
  clear hx hy hc ax ay
  go_enter Tryz.func92, Tryz.ntmps92
  go_wp2
  go_loopw [12] (fun i wr => ∃ k : Nat, k ≤ cs.length ∧ i = .int .i64 k ∧ (∃ n, wr = w.drewN n) ∧ Hid (∀ j, j < k → cmpV (xs.getD (cs.getD j 0).toNat 0) (ys.getD (cs.getD j 0).toNat 0) = 0)) (fun i _ => cs.length - (intOf i).toNat)
  case atStart => exact ⟨0, Nat.zero_le _, rfl, ⟨0, rfl⟩, fun j hj => absurd hj (by omega)⟩
  case round =>
    obtain ⟨k, hk, rfl, ⟨n, rfl⟩, HP⟩ := hrel
    by_cases hlt : k < cs.length
    · obtain ⟨cb, co, rfl, hcc⟩ := IntsAt.get HC.out hlt
      have hck : (w.drewN n).cell? ⟨cb, co + k, none⟩ = _ := hcc k hlt
      have hbx := allB_at HA.out.1 hlt
      have hby := allB_at HA.out.2 hlt
      have hcv : cs.getD k 0 = cs[k] := by simp [List.getD, hlt]
      rw [hcv] at hck
      have hkx : cs[k].toNat < xs.length := by omega
      have hky : cs[k].toNat < ys.length := by omega
      obtain ⟨xb, xo, rfl, hxc⟩ := IntsAt.get HX.out hkx
      obtain ⟨yb, yo, rfl, hyc⟩ := IntsAt.get HY.out hky
      have hxk : (w.drewN n).cell? ⟨xb, xo + cs[k].toNat, none⟩ = _ := hxc _ hkx
      have hyk : (w.drewN n).cell? ⟨yb, yo + cs[k].toNat, none⟩ = _ := hyc _ hky
      have hat := cmpL_at (xs := xs) (ys := ys) hlt HP.out
      have hst : ∀ j, j < k + 1 → cmpV (xs.getD cs[k].toNat 0) (ys.getD cs[k].toNat 0) = 0 → cmpV (xs.getD (cs.getD j 0).toNat 0) (ys.getD (cs.getD j 0).toNat 0) = 0 := fun j hj h0 => by
        rcases Nat.lt_or_ge j k with h | h
        · exact HP.out j h
        · obtain rfl : j = k := by omega
          rw [hcv]; exact h0
      rw [hcv] at hat
      have HAT : Hid _ := hat
      have HST : Hid _ := hst
      have hcall := fun W => compareValues_any (xs.getD cs[k].toNat 0) (ys.getD cs[k].toNat 0) W
      clear hat hst hcc hxc hyc hcv
      generalize xs.getD cs[k].toNat 0 = vx at *
      generalize ys.getD cs[k].toNat 0 = vy at *
      generalize hck0 : cs[k] = ck at *
      clear hck0
      obtain ⟨cn, rfl⟩ : ∃ cn : Nat, ck = (cn : Int) := ⟨ck.toNat, by omega⟩
      simp only [Int.toNat_natCast] at hkx hky hxk hyk
      obtain ⟨wq, hwq⟩ : ∃ wq, w.drewN n = wq := ⟨_, rfl⟩
      have HQ : Hid _ := hwq
      rw [hwq] at hck hxk hyk ⊢
      clear hwq
      by_cases h0 : cmpV vx vy = 0
      · have HZ : Hid _ := fun j hj => HST.out j hj h0
        rw [h0] at hcall
        clear h0 HST HAT
        go_wp2
        go_quiet ((go_at_call 104; exact Calls.quiet_of_same (hcall _)))
        go_wp2
        go_roundw
        case rel => exact ⟨k + 1, by omega, by go_num, ⟨_, by rw [← HQ.out, World.drewN_drewN]⟩, HZ.out⟩
        case measure => simp [intOf]; omega
      · have e0 : (cmpV vx vy != 0) = true := by simpa using h0
        have HE : Hid _ := HAT.out h0
        clear HST HAT h0
        generalize cmpV vx vy = cv at *
        go_wp2
        go_quiet ((go_at_call 104; exact Calls.quiet_of_same (hcall _)))
        go_wp2
        go_ret
        exact ⟨ret_int HE.out.symm, _, by rw [← HQ.out, World.drewN_drewN]⟩
    · have hfin : cmpL xs ys cs = 0 := cmpL_end fun j hj => HP.out j (by omega)
      have HFI : Hid _ := hfin
      clear hfin
      go_wp2
      go_ret
      exact ⟨ret_int HFI.out.symm, _, rfl⟩

end Go.Proofs.YtlpbelhfpoilpaaGreat

