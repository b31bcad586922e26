import Derived.Test.YtpkihnafdaedoaaProgA
namespace Go.Proofs.Ytpkihnafdaedoaa
open Go.RowKit Go.Scout

set_option maxHeartbeats 2000000 in
theorem indexT_any (ao : Option Addr) (cap : Nat) (ts : List TableD) (w : World) (hx : TablesAt w ao ts) :
    Calls Try.prog 76 #[.slice ao ts.length cap, .func (.func 58) #[] #[]] w fun e w' => ∃ r, e = .returned (.int .i64 r) ∧ foundAt r (ts.any fun t => !tableB t) ∧ Below w.heap.size w w' := by
  have hl := hx.1
  go_enter Try.func76, Try.ntmps76
  go_wp2
  go_loopw [8] (fun i wr => ∃ k : Nat, k ≤ ts.length ∧ i = .int .i64 k ∧ Hid (∀ j, j < k → (!tableB (ts.getD j tz)) = false) ∧ Below w.heap.size w wr) (fun i _ => ts.length - (intOf i).toNat)
  case atStart => exact ⟨0, Nat.zero_le _, rfl, fun j hj => absurd hj (by omega), Below.refl _ _⟩
  case round =>
    obtain ⟨k, hk, rfl, HP, hb⟩ := hrel
    by_cases hlt : k < ts.length
    · obtain ⟨b, off, rfl, c0, c1, c2, c3, c4, c5⟩ := hx.2 k hlt
      have e0 := cell_below hb c0
      have e1 := cell_below hb c1
      have e2 := cell_below hb c2
      have e3 := cell_below hb c3
      have e4 := cell_below hb c4
      have e5 := cell_below hb c5
      clear c0 c1 c2 c3 c4 c5 hx
      have HA : Hid ((!tableB (ts.getD k tz)) = true → (ts.any fun t => !tableB t) = true) := fun h => any_at (z := tz) hlt h
      have hC := isCat1_any (ts.getD k tz) wr
      unfold TableD.vals at hC
      generalize hge : ts.getD k tz = t at *
      have HGE : Hid (ts.getD k tz = t) := hge
      clear hge
      go_wp2_with fail
      refine hC.mono ?_
      clear hC
      rintro e w2 ⟨rfl, hb2⟩
      cases hB : tableB t
      · rw [hB] at HA
        go_wp2
        go_ret
        exact ⟨_, ret_int rfl, ⟨by omega, by rw [HA.out rfl]; simp⟩, Below.step hb hb2⟩
      · have HB : Hid (tableB t = true) := hB
        clear hB
        go_wp2
        go_roundw
        case rel =>
          refine ⟨k + 1, by omega, by go_num, fun j hj => ?_, Below.step hb hb2⟩
          by_cases hjk : j = k
          · subst hjk; rw [HGE.out, HB.out]; rfl
          · exact HP.out j (by omega)
        case measure => simp [intOf]; omega
    · have HA : Hid ((ts.any fun t => !tableB t) = false) := any_none (z := tz) (fun j hj => HP.out j (by omega))
      go_wp2
      go_ret
      exact ⟨_, ret_int rfl, ⟨by omega, by rw [HA.out]; rfl⟩, hb⟩

theorem containsT_any (ao : Option Addr) (cap : Nat) (ts : List TableD) (w : World) (hx : TablesAt w ao ts) :
    Calls Try.prog 57 #[.slice ao ts.length cap, .func (.func 58) #[] #[]] w fun e w' => e = .returned (.bool (ts.any fun t => !tableB t)) ∧ Below w.heap.size w w' := by
  have hC := indexT_any ao cap ts w hx
  go_enter Try.func57, Try.ntmps57
  go_wp2_with fail
  refine hC.mono ?_
  clear hC
  rintro e w2 ⟨r, rfl, hr, hb2⟩
  have HR : Hid _ := hr.2
  clear hr
  go_wp2
  go_ret
  exact ⟨ret_bool HR.out, hb2⟩

theorem isCatalogP_any (ao : Option Addr) (cap : Nat) (ts : List TableD) (w : World) (hx : TablesAt w ao ts) :
    Calls Try.prog 41 #[.slice ao ts.length cap] w fun e w' => e = .returned (.bool (catB ts)) ∧ Below w.heap.size w w' := by
  have hl := hx.1
  by_cases h0 : ts.length < 1
  · go_enter Try.func41, Try.ntmps41
    go_wp2
    go_ret
    exact ⟨ret_bool (catB_short h0), Below.refl _ _⟩
  by_cases h8 : 8 < ts.length
  · go_enter Try.func41, Try.ntmps41
    go_wp2
    go_ret
    exact ⟨ret_bool (catB_long h8), Below.refl _ _⟩
  have hC := containsT_any ao cap ts w hx
  have HA : Hid _ := catB_any h0 h8
  generalize (ts.any fun t => !tableB t) = Y at *
  go_enter Try.func41, Try.ntmps41
  go_wp2_with fail
  refine hC.mono ?_
  clear hC
  rintro e w2 ⟨rfl, hb2⟩
  go_wp2
  go_ret
  exact ⟨ret_bool HA.out, hb2⟩

end Go.Proofs.Ytpkihnafdaedoaa
