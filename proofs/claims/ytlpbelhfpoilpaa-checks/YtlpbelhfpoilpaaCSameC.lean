import Derived.Test.YtlpbelhfpoilpaaCGive0SameASameB
set_option linter.all false
namespace Go.Scout
open Go.RowKit

/-- A node of a plan, with the addresses of its lists. -/
structure NodeV where
  kind : Int
  l : Int
  r : Int
  source : Int
  cl : IntsV
  key : Int
  co : IntsV

def nz : NodeV := ⟨0, 0, 0, 0, ⟨none, 0, []⟩, 0, ⟨none, 0, []⟩⟩

def NodesAt (w : World) (ao : Option Addr) (ns : List NodeV) : Prop :=
  ns.length ≤ 164703072086692425 ∧ ∀ i, i < ns.length → ∃ b off, ao = some ⟨b, off, none⟩ ∧
    w.cell? ⟨b, off + i * 7, none⟩ = some (.int .i64 (ns.getD i nz).kind) ∧ w.cell? ⟨b, off + i * 7 + 1, none⟩ = some (.int .i64 (ns.getD i nz).l) ∧
    w.cell? ⟨b, off + i * 7 + 2, none⟩ = some (.int .i64 (ns.getD i nz).r) ∧ w.cell? ⟨b, off + i * 7 + 3, none⟩ = some (.int .i64 (ns.getD i nz).source) ∧
    w.cell? ⟨b, off + i * 7 + 4, none⟩ = some (ns.getD i nz).cl.val ∧ w.cell? ⟨b, off + i * 7 + 5, none⟩ = some (.int .i64 (ns.getD i nz).key) ∧
    w.cell? ⟨b, off + i * 7 + 6, none⟩ = some (ns.getD i nz).co.val ∧ (ns.getD i nz).cl.At w ∧ (ns.getD i nz).co.At w

/-- The same but for where its lists lie. -/
def NodeV.same (a b : NodeV) : Prop := a.kind = b.kind ∧ a.l = b.l ∧ a.r = b.r ∧ a.source = b.source ∧ a.cl.xs = b.cl.xs ∧ a.key = b.key ∧ a.co.xs = b.co.xs

end Go.Scout
namespace Go.Proofs.Ytlpbelhfpoilpaa
open Go.RowKit Go.Scout

theorem ints_drewN {w : World} {ao : Option Addr} {xs : List Int} (h : IntsAt w ao xs) (n : Nat) : IntsAt (w.drewN n) ao xs := h.below (below_drewN (Below.refl _ _) _)

theorem sameInts_drawn (ao bo : Option Addr) (cap cap' : Nat) (xs : List Int) (w : World) (n m : Nat) (hx : IntsAt w ao xs) (hy : IntsAt w bo xs) :
    Calls Try.prog 45 #[.slice ao xs.length cap, .slice bo xs.length cap'] (w.drewN (n + m)) fun e w'' => e = .returned (.bool true) ∧ ∃ m', w'' = w.drewN (n + m') :=
  (sameInts_any ao bo cap cap' xs (w.drewN (n + m)) (ints_drewN hx _) (ints_drewN hy _)).mono fun _ _ ⟨he, k', hk'⟩ => ⟨he, m + k', by rw [hk', World.drewN_drewN, Nat.add_assoc]⟩

set_option maxRecDepth 20000 in
set_option maxHeartbeats 8000000 in
theorem samePlan_true (ao bo : Option Addr) (cap cap' : Nat) (ns ms : List NodeV) (w : World) (hx : NodesAt w ao ns) (hy : NodesAt w bo ms) (he : ns.length = ms.length) (hs : ∀ i, i < ns.length → (ns.getD i nz).same (ms.getD i nz)) :
    Calls Try.prog 31 #[.slice ao ns.length cap, .slice bo ms.length cap'] w fun e w' => e = .returned (.bool true) ∧ Below w.heap.size w w' := by
  have hl := hx.1
  rw [← he]
  have HE : Hid (ns.length = ms.length) := he
  clear he
  have hne : ((ns.length : Int) != ns.length) = false := by simp
  go_enter Try.func31, Try.ntmps31
  go_wp2
  go_loopw [5] (fun i wr => ∃ k : Nat, k ≤ ns.length ∧ i = .int .i64 k ∧ ∃ n, wr = w.drewN n) (fun i _ => ns.length - (intOf i).toNat)
  case atStart => exact ⟨0, Nat.zero_le _, rfl, 0, rfl⟩
  case round =>
    obtain ⟨k, hk, rfl, n, rfl⟩ := hrel
    by_cases hlt : k < ns.length
    · obtain ⟨b, off, rfl, c0, c1, c2, c3, c4, c5, c6, i1, i2⟩ := hx.2 k hlt
      obtain ⟨b', off', rfl, d0, d1, d2, d3, d4, d5, d6, j1, j2⟩ := hy.2 k (by have := HE.out; omega)
      obtain ⟨q0, q1, q2, q3, q4, q5, q6⟩ := hs k hlt
      clear hx hy hs
      generalize ns.getD k nz = x1 at *
      generalize ms.getD k nz = x2 at *
      obtain ⟨ka, la, ra, sa, ⟨ad1, cp1, xs1⟩, ya, ⟨ad2, cp2, xs2⟩⟩ := x1
      obtain ⟨kb, lb, rb, sb, ⟨ad3, cp3, xs3⟩, yb, ⟨ad4, cp4, xs4⟩⟩ := x2
      unfold IntsV.At at i1 i2 j1 j2
      unfold IntsV.val at c4 c6 d4 d6
      simp only at q0 q1 q2 q3 q4 q5 q6 i1 i2 j1 j2 c0 c1 c2 c3 c4 c5 c6 d0 d1 d2 d3 d4 d5 d6
      subst q0 q1 q2 q3 q4 q5 q6
      have t0 : (ka != ka) = false := by simp
      have t1 : (la != la) = false := by simp
      have t2 : (ra != ra) = false := by simp
      have t3 : (sa != sa) = false := by simp
      have t5 : (ya != ya) = false := by simp
      go_wp2
      refine wp_region_quiet_lit (by kernel_rfl) (by kernel_rfl) ?_
      repeat (go_big_quiet_step (fail))
      go_big_quiet_want
      refine ⟨.bool true, fun x hx => ?_, ?_⟩
      · obtain ⟨m, rfl⟩ := hx
        have hC := sameInts_drawn ad1 ad3 cp1 cp3 xs1 w n m i1 j1
        go_simp
      simp only [Act.put, List.setIfInBounds_toArray, List.set_cons_succ, List.set_cons_zero]
      go_big_quiet_on
      repeat (go_big_quiet_step (fail))
      refine wpQuiet_nil ?_
      intro x hx
      obtain ⟨m, rfl⟩ := hx
      rw [World.drewN_drewN]
      generalize n + m = n'
      go_wp2
      refine wp_region_quiet_lit (by kernel_rfl) (by kernel_rfl) ?_
      repeat (go_big_quiet_step (fail))
      go_big_quiet_want
      refine ⟨.bool true, fun x hx => ?_, ?_⟩
      · obtain ⟨m, rfl⟩ := hx
        have hC := sameInts_drawn ad2 ad4 cp2 cp4 xs2 w n' m i2 j2
        go_simp
      simp only [Act.put, List.setIfInBounds_toArray, List.set_cons_succ, List.set_cons_zero]
      go_big_quiet_on
      repeat (go_big_quiet_step (fail))
      refine wpQuiet_nil ?_
      intro x hx
      obtain ⟨m, rfl⟩ := hx
      rw [World.drewN_drewN]
      generalize n' + m = n2
      go_wp2
      go_quiet (fail)
      go_wp2
      go_roundw
      case rel => exact ⟨k + 1, by omega, by go_num, _, rfl⟩
      case measure => simp [intOf]; omega
    · go_wp2
      go_ret
      exact ⟨rfl, below_drewN (Below.refl _ _) _⟩

end Go.Proofs.Ytlpbelhfpoilpaa

