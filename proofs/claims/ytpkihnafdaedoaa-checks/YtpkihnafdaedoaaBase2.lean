import Derived.Test.YtpkihnafdaedoaaBase
namespace Go.Scout
open Go.RowKit

/-- How many columns the sources have. -/
def widthN (ts : List TableD) (xs : List Int) : Int := (xs.map fun t => (ts.getD t.toNat tz).cols).sum

theorem widthN_snoc (ts : List TableD) (xs : List Int) (k : Nat) (hk : k < xs.length) : widthN ts (xs.take (k + 1)) = widthN ts (xs.take k) + (ts.getD xs[k].toNat tz).cols := by
  unfold widthN
  rw [List.take_succ_eq_append_getElem hk, List.map_append, List.sum_append]
  simp

theorem cols_of {ts : List TableD} (hc : catB ts = true) {i : Nat} (hi : i < ts.length) : 1 ≤ (ts.getD i tz).cols ∧ (ts.getD i tz).cols ≤ 4 := by
  unfold catB at hc
  rw [Bool.and_eq_true] at hc
  have h := List.all_eq_true.1 hc.2 (ts.getD i tz) (by simp [List.getD, hi])
  unfold tableB at h
  rw [decide_eq_true_iff] at h
  exact ⟨h.1, h.2.1⟩

theorem allB_at {xs : List Int} {n : Int} (h : allB xs n = true) {k : Nat} (hk : k < xs.length) : 0 ≤ xs[k] ∧ xs[k] < n := by
  unfold allB at h
  have := List.all_eq_true.1 h xs[k] (List.getElem_mem hk)
  simpa using this

theorem widthN_bd {ts : List TableD} {xs : List Int} (hc : catB ts = true) (ha : allB xs ts.length = true) : ∀ k, k ≤ xs.length → 0 ≤ widthN ts (xs.take k) ∧ widthN ts (xs.take k) ≤ 4 * k
  | 0, _ => by simp [widthN]
  | k + 1, hk => by
    have ih := widthN_bd hc ha k (by omega)
    rw [widthN_snoc ts xs k (by omega)]
    have h1 := allB_at ha (k := k) (by omega)
    have h2 := cols_of hc (i := (xs[k]'(by omega)).toNat) (by omega)
    omega

theorem cell_alloc {w : World} {b o : Nat} {v : Value} (h : w.cell? ⟨b, o, none⟩ = some v) (x : Obj) : (w.alloc x).cell? ⟨b, o, none⟩ = some v :=
  (Below.cell ((Below.refl w.heap.size w).alloc (Nat.le_refl _) x) (p := ⟨b, o, none⟩) (lt_of_cell h)).trans h

end Go.Scout
