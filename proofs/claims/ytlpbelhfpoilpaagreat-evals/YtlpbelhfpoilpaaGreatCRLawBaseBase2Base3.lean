import Derived.RangeFuncRecord
import Derived.RangeFuncBound
import Derived.RangeFuncCalls
import Derived.RangeFuncLeaves
import Derived.Below
import Derived.WalkKit
set_option linter.all false
namespace Go.Scout
open Go.RowKit

/-- What has come of A is B: the blocks of s lie as they lay. -/
structure Kept (s : Nat → Prop) (A B : World) : Prop where
  os : B.os = A.os
  tape : B.tape = A.tape
  output : B.output = A.output
  size : A.heap.size ≤ B.heap.size
  block : ∀ k, k < A.heap.size → s k → B.heap[k]? = A.heap[k]?

theorem Kept.refl (s : Nat → Prop) (A : World) : Kept s A A := ⟨rfl, rfl, rfl, Nat.le_refl _, fun _ _ _ => rfl⟩
theorem Kept.trans {s : Nat → Prop} {A B C : World} (h : Kept s A B) (k : Kept s B C) : Kept s A C :=
  ⟨k.os.trans h.os, k.tape.trans h.tape, k.output.trans h.output, Nat.le_trans h.size k.size, fun i hi hs => (k.block i (Nat.lt_of_lt_of_le hi h.size) hs).trans (h.block i hi hs)⟩
theorem Kept.mono {s t : Nat → Prop} {A B : World} (h : Kept s A B) (hs : ∀ b, b < A.heap.size → t b → s b) : Kept t A B :=
  ⟨h.os, h.tape, h.output, h.size, fun i hi ht => h.block i hi (hs i hi ht)⟩
/-- What is kept behind a step by which a set of blocks grew. -/
theorem Kept.trans' {s t : Nat → Prop} {A B C : World} (h : Kept s A B) (k : Kept t B C) (hs : ∀ b, b < A.heap.size → s b → t b) : Kept s A C :=
  ⟨k.os.trans h.os, k.tape.trans h.tape, k.output.trans h.output, Nat.le_trans h.size k.size, fun i hi hi' => (k.block i (Nat.lt_of_lt_of_le hi h.size) (hs i hi hi')).trans (h.block i hi hi')⟩
theorem Kept.of_below {s : Nat → Prop} {B : Nat} {w w' : World} (h : Below B w w') (hs : ∀ b, b < w.heap.size → s b → b < B) : Kept s w w' :=
  ⟨h.os, h.tape, h.output, h.size, fun k hk hk' => h.block k (hs k hk hk')⟩
theorem Kept.below {s : Nat → Prop} {B : Nat} {w w' : World} (h : Kept s w w') (hB : B ≤ w.heap.size) (hs : ∀ b, b < B → s b) : Below B w w' :=
  ⟨h.os, h.tape, h.output, h.size, fun k hk => h.block k (Nat.lt_of_lt_of_le hk hB) (hs k hk)⟩
theorem Kept.putObj {s : Nat → Prop} (W : World) {r : Nat} (o : Obj) (hr : ¬ s r) : Kept s W (W.putObj r o) :=
  ⟨rfl, rfl, rfl, by simp, fun k _ hs => World.putObj_heap_other (fun e => hr (e ▸ hs))⟩
theorem Kept.alloc {s : Nat → Prop} (W : World) (o : Obj) : Kept s W (W.alloc o) :=
  ⟨rfl, rfl, rfl, by simp, fun k hk _ => Below.heap_alloc W o k hk⟩

/-- Things that are handed out: how one stands as a value, how it lies in memory, in which block, and what it tells. -/
structure El (α κ : Type) where
  enc : α → Value
  At : α → World → Prop
  blk : α → Option Nat
  key : α → κ
  keep : ∀ {x A B}, At x A → A.heap.size ≤ B.heap.size → (∀ b, b < A.heap.size → blk x = some b → B.heap[b]? = A.heap[b]?) → At x B
  inn : ∀ {x A b}, At x A → blk x = some b → b < A.heap.size

variable {α κ : Type} (E : El α κ)

/-- A function over which one can range, and what it hands out, to whoever goes on to the end. -/
def Seq (P : Program) (g : Nat) (lb : Array Value) (rows : List κ) (w0 : World) : Prop :=
  ∀ (l : Nat) (J : List α → (Nat → Prop) → World → Prop) (W : World) (o : Nat → Prop),
    Below w0.heap.size w0 W → (∀ b, o b → w0.heap.size ≤ b ∧ b < W.heap.size) →
    (∀ pre o1 A B, J pre o1 A → Kept (fun b => o1 b ∨ b < W.heap.size) A B → J pre o1 B) →
    (∀ pre x o1 W1, J pre o1 W1 → (pre ++ [x]).map E.key <+: rows → E.At x W1 → (∀ b, E.blk x = some b → ¬ o1 b ∧ (b < w0.heap.size ∨ W.heap.size ≤ b)) → W.heap.size ≤ W1.heap.size →
      YieldAt Fence.wide 0 P l #[E.enc x] W1 fun e W' => e = .returned (.bool true) ∧ ∃ o2, J (pre ++ [x]) o2 W' ∧ Kept (fun b => ¬ o1 b) W1 W' ∧
        ∀ b, o2 b → o1 b ∨ (W1.heap.size ≤ b ∧ b < W'.heap.size) ∨ (E.blk x = some b ∧ W.heap.size ≤ b)) →
    J [] o W →
    Calls P g (#[.func (.yield l) #[] #[]] ++ lb) W fun e W' => (∃ v, e = .returned v) ∧ ∃ ys o', ys.map E.key = rows ∧ J ys o' W' ∧ Kept (fun b => ¬ o b) W W' ∧
      ∀ b, o' b → o b ∨ (W.heap.size ≤ b ∧ b < W'.heap.size)

/-- How the body of a round is left: off its end. -/
def roundKeeps (I : List α → (Nat → Prop) → World → Prop) (pre : List α) (x : α) (n : Nat) (o1 : Nat → Prop) (W : World) : Exit → Act → World → Prop
  | .normal, _, W' => ∃ o2, I (pre ++ [x]) o2 W' ∧ Kept (fun b => ¬ o1 b) W W' ∧ ∀ b, o2 b → o1 b ∨ (W.heap.size ≤ b ∧ b < W'.heap.size) ∨ (E.blk x = some b ∧ n ≤ b)
  | _, _, _ => False

/-- A range over such a function. -/
theorem wp_range {P : Program} {g : Operand} {ps : Array Tmp} {assign body : Code} {Q : Exit → Act → World → Prop} {a : Act} {w : World}
    {gf : Nat} {lb : Array Value} (hg : a.eval g = .func (.func gf) #[] lb) (eg : ∀ args w, (callFunc gf args).run P w = .ok (.enter gf args) w)
    {rows : List κ} {w0 : World} (hseq : Seq E P gf lb rows w0) (hb0 : Below w0.heap.size w0 w) (hps : ps.size = 1)
    (I : List α → (Nat → Prop) → World → Prop) (o : Nat → Prop) (ho : ∀ b, o b → w0.heap.size ≤ b ∧ b < w.heap.size)
    (hI : ∀ pre o1 A B, I pre o1 A → Kept (fun b => o1 b ∨ b < w.heap.size) A B → I pre o1 B) (h0 : I [] o w) (a₁ : α → Act)
    (hassign : ∀ (l : Nat) (x : α) (W : World) (K : Act → World → Prop), K (a₁ x) W →
      assign.wpIn (Fence.wide.inRound l) 0 P (Exit.then K (fun _ _ _ => False)) { tmps := (ps.zip #[E.enc x]).foldl (fun t (p, v) => t.setIfInBounds p v) a.tmps, defers := [] } W)
    (hbody : ∀ (l : Nat) (pre : List α) (x : α) (o1 : Nat → Prop) (W : World), I pre o1 W → (pre ++ [x]).map E.key <+: rows → E.At x W →
      (∀ b, E.blk x = some b → ¬ o1 b ∧ (b < w0.heap.size ∨ w.heap.size ≤ b)) → w.heap.size + 2 ≤ W.heap.size →
      body.wpIn (Fence.wide.inRound l) 0 P (roundKeeps E I pre x w.heap.size o1 W) (a₁ x) W)
    (hdone : ∀ (ys : List α) (o' : Nat → Prop) (W : World), ys.map E.key = rows → I ys o' W → Kept (fun b => ¬ o b) w W → (∀ b, o' b → (o b ∨ (w.heap.size + 2 ≤ b ∧ b < W.heap.size))) →
      W.heap[w.heap.size]? = some (.deferred (some [])) → Q .normal { a with defers := { target := .collected w.heap.size, args := #[] } :: a.defers } W) :
    (Code.rangeFunc g ps assign body).wpIn Fence.wide 0 P Q a w := by
  refine wpIn_rangeFunc ?_
  intro fn hfn
  obtain ⟨rec, hrec⟩ : ∃ rec : LoopState → Option Code → Loop, rec = fun st pe => { state := st, pending := pe, fn, tmps := a.tmps, params := ps, assign, body, defers := w.heap.size } := ⟨_, rfl⟩
  obtain ⟨W1, hW1⟩ : ∃ W1, (w.alloc (.deferred (some []))).alloc (.loop (rec .ready none)) = W1 := ⟨_, rfl⟩
  have hs1 : W1.heap.size = w.heap.size + 2 := by rw [← hW1]; simp
  have hL1 : W1.heap[w.heap.size + 1]? = some (.loop (rec .ready none)) := by
    rw [← hW1]; have := World.alloc_heap_new (w.alloc (.deferred (some []))) (.loop (rec .ready none)); rwa [World.size_alloc] at this
  have hD1 : W1.heap[w.heap.size]? = some (.deferred (some [])) := by
    rw [← hW1]; exact (Below.heap_alloc _ _ _ (by simp)).trans (World.alloc_heap_new w _)
  have hk1 : ∀ s, Kept s w W1 := fun s => by rw [← hW1]; exact (Kept.alloc _ _).trans (Kept.alloc _ _)
  have hbw : Below w0.heap.size w0 W1 := hb0.trans ((hk1 (fun _ => True)).below hb0.size (fun _ _ => trivial))
  refine ⟨w.heap.size + 1, [{ target := .collected w.heap.size, args := #[] }], W1, { target := .fn (.func gf) lb, args := #[.func (.yield (w.heap.size + 1)) #[] #[]] }, W1, gf,
    #[.func (.yield (w.heap.size + 1)) #[] #[]] ++ lb, W1, ?_, ?_, ?_, ?_, fun h => by simp [Fence.wide] at h, ?_⟩
  · rw [← hW1, hrec]; exact run_enterLoop_outer _ _ _ _ _
  · simp only [resolve, hg]
    simp [go_sem]
  · intro f' _; trivial
  · simp [invoke, go_sem, eg]
  · refine callsIn_wide.2 ((hseq (w.heap.size + 1)
      (fun pre o' W => ∃ o1, I pre o1 W ∧ (∀ b, o' b ↔ o1 b ∨ b = w.heap.size ∨ b = w.heap.size + 1) ∧ ¬ o1 w.heap.size ∧ ¬ o1 (w.heap.size + 1) ∧
        W.heap[w.heap.size + 1]? = some (.loop (rec .ready none)) ∧ W.heap[w.heap.size]? = some (.deferred (some [])))
      W1 (fun b => o b ∨ b = w.heap.size ∨ b = w.heap.size + 1) hbw ?_ ?_ ?_ ?_).mono ?_)
    · rintro b (hb | rfl | rfl)
      · exact ⟨(ho b hb).1, by have := (ho b hb).2; omega⟩
      · exact ⟨hb0.size, by omega⟩
      · exact ⟨by have := hb0.size; omega, by omega⟩
    · rintro pre o' A B ⟨o1, hi, ho', hn, hn', hl, hd⟩ hk
      have hlA := (Array.getElem?_eq_some_iff.1 hl).1
      have hdA := (Array.getElem?_eq_some_iff.1 hd).1
      refine ⟨o1, hI pre o1 A B hi (hk.mono fun b _ hb => ?_), ho', hn, hn', (hk.block _ hlA (.inl ((ho' _).2 (.inr (.inr rfl))))).trans hl, (hk.block _ hdA (.inl ((ho' _).2 (.inr (.inl rfl))))).trans hd⟩
      rcases hb with hb | hb
      · exact .inl ((ho' b).2 (.inl hb))
      · exact .inr (by omega)
    · rintro pre x o' W ⟨o1, hi, ho', hn, hn', hl, hd⟩ hpre hx hoff hsz
      have hlt : w.heap.size + 1 < W.heap.size := (Array.getElem?_eq_some_iff.1 hl).1
      have hlt' : w.heap.size < W.heap.size := by omega
      have hy := run_yield (P := P) (args := #[E.enc x]) hl (by rw [hrec]; exact hps.symm)
      rw [hrec] at hy
      refine ⟨fn, _, assign, body, hy, roundIn_of_wpIn hfn (hassign _ x W _ ⟨_, run_beginRound hl (by rw [hrec]), ?_⟩)⟩
      obtain ⟨W2, hW2⟩ : ∃ W2, W.putObj (w.heap.size + 1) (.loop { rec .ready none with state := .busy }) = W2 := ⟨_, rfl⟩
      have hk2 : Kept (fun b => b ≠ w.heap.size + 1) W W2 := by rw [← hW2]; exact Kept.putObj _ _ (fun h => h rfl)
      have hl2 : W2.heap[w.heap.size + 1]? = some (.loop { rec .ready none with state := .busy }) := by rw [← hW2]; exact World.putObj_heap_same hlt
      have hd2 : W2.heap[w.heap.size]? = some (.deferred (some [])) := (hk2.block _ hlt' (by omega)).trans hd
      have hs2 : W2.heap.size = W.heap.size := by rw [← hW2]; simp
      have hI2 : I pre o1 W2 := hI pre o1 W W2 hi (hk2.mono fun b _ hb => by
        rcases hb with hb | hb
        · intro e; exact hn' (e ▸ hb)
        · omega)
      have hx2 : E.At x W2 := E.keep hx hk2.size (fun b hb hbx => hk2.block b hb (fun e => (hoff b hbx).1 ((ho' b).2 (.inr (.inr e)))))
      rw [hW2]
      rw [hrec] at hl2
      refine wpIn_mono (hbody _ pre x o1 W2 hI2 hpre hx2 (fun b hb => ⟨fun h => (hoff b hb).1 ((ho' b).2 (.inl h)), (hoff b hb).2.imp id (by omega)⟩) (by omega)) ?_
      rintro e a3 W3 hp
      cases e with
      | normal =>
        obtain ⟨o2, hi3, hk3, hg3⟩ := hp
        have hl3 : W3.heap[w.heap.size + 1]? = some (.loop { state := .busy, pending := none, fn, tmps := a.tmps, params := ps, assign, body, defers := w.heap.size }) := (hk3.block _ (by omega) hn').trans hl2
        have hlt3 := (Array.getElem?_eq_some_iff.1 hl3).1
        have hd3 : W3.heap[w.heap.size]? = some (.deferred (some [])) := (hk3.block _ (by omega) hn).trans hd2
        have hno : ∀ b, b = w.heap.size ∨ b = w.heap.size + 1 → ¬ o2 b := fun b hb h => by
          rcases hg3 b h with h | h | ⟨h, _⟩
          · rcases hb with rfl | rfl
            · exact hn h
            · exact hn' h
          · omega
          · exact (hoff b h).1 ((ho' b).2 (.inr hb))
        refine ⟨_, _, run_endRound none hl3, rfl, fun b => o2 b ∨ b = w.heap.size ∨ b = w.heap.size + 1, ⟨o2, hI _ o2 W3 _ hi3 (Kept.putObj _ _ ?_), fun b => Iff.rfl, hno _ (.inl rfl), hno _ (.inr rfl), ?_, ?_⟩, ?_, ?_⟩
        · rintro (h | h)
          · exact hno _ (.inr rfl) h
          · omega
        · rw [World.putObj_heap_same hlt3, hrec]; rfl
        · exact (World.putObj_heap_other (by omega)).trans hd3
        · refine ((hk2.mono ?_).trans' (hk3.mono ?_) (fun _ _ h => h)).trans (Kept.putObj _ _ ?_)
          · intro b _ h e; exact h ((ho' b).2 (.inr (.inr e)))
          · intro b _ h h'; exact h ((ho' b).2 (.inl h'))
          · intro h; exact h ((ho' _).2 (.inr (.inr rfl)))
        · rintro b (h | h)
          · rcases hg3 b h with h | h | h
            · exact .inl ((ho' b).2 (.inl h))
            · exact .inr (.inl ⟨by omega, by rw [World.putObj_size]; omega⟩)
            · exact .inr (.inr ⟨h.1, by
                rcases (hoff b h.1).2 with h' | h'
                · have := h.2; have := hb0.size; omega
                · exact h'⟩)
          · exact .inl ((ho' b).2 (.inr h))
      | ret => exact hp.elim
      | exit id => exact hp.elim
      | goto t => exact hp.elim
      | panic ch => exact hp.elim
      | outgrown => exact hp.elim
    · have hno : ∀ b, b = w.heap.size ∨ b = w.heap.size + 1 → ¬ o b := fun b hb h => by have := (ho b h).2; omega
      exact ⟨o, hI _ _ _ _ h0 (hk1 _), fun _ => Iff.rfl, hno _ (.inl rfl), hno _ (.inr rfl), hL1, hD1⟩
    · rintro e W2 ⟨⟨v, rfl⟩, ys, o', hys, ⟨o1, hi, ho', hn, hn', hl, hd⟩, hk, hg⟩
      have hlt := (Array.getElem?_eq_some_iff.1 hl).1
      refine ⟨none, _, by have := run_endLoop (P := P) hl (by rw [hrec]; simp); rw [hrec] at this; exact this, hdone ys o1 _ hys (hI _ _ _ _ hi (Kept.putObj _ _ ?_)) ?_ ?_ ((World.putObj_heap_other (by omega)).trans hd)⟩
      · rintro (h | h)
        · exact hn' h
        · omega
      · refine (Kept.trans' (hk1 _) (hk.mono fun b _ h => h) ?_).trans (Kept.putObj _ _ ?_) |>.mono (s := fun b => ¬ o b ∧ b < w.heap.size) ?_
        · rintro b _ ⟨h, hb⟩ (h' | h' | h')
          · exact h h'
          · omega
          · omega
        · rintro ⟨_, h⟩; omega
        · exact fun b hb h => ⟨h, hb⟩
      · intro b hb
        rcases hg b ((ho' b).2 (.inl hb)) with (h | h | h) | h
        · exact .inl h
        · exact absurd (h ▸ hb) hn
        · exact absurd (h ▸ hb) hn'
        · exact .inr ⟨by omega, by rw [World.putObj_size]; exact h.2⟩

/-- What was handed out at one world is handed out later. -/
theorem Seq.later {P : Program} {g : Nat} {lb : Array Value} {rows : List κ} {w0 w1 : World} (h : Seq E P g lb rows w0) (hb : Below w0.heap.size w0 w1) : Seq E P g lb rows w1 := by
  intro l J W o hW ho hJ hY h0
  refine h l J W o (hb.trans (hW.mono hb.size)) (fun b h => ⟨Nat.le_trans hb.size (ho b h).1, (ho b h).2⟩) hJ (fun pre x o1 W1 hj hp hx hoff hs => hY pre x o1 W1 hj hp hx (fun b hb' => ⟨(hoff b hb').1, (hoff b hb').2.imp (fun h => Nat.lt_of_lt_of_le h hb.size) id⟩) hs) h0

end Go.Scout

namespace Go.Scout
open Go.RowKit

theorem ret_bool {a b : Bool} (h : a = b) : Ending.returned (.bool a) = .returned (.bool b) := by rw [h]
theorem ret_int {k : IntKind} {a b : Int} (h : a = b) : Ending.returned (.int k a) = .returned (.int k b) := by rw [h]

/-- The cells behind a slice's address: n of them, told by f. -/
def CellsAt (w : World) (ao : Option Addr) (n : Nat) (f : Nat → Value) : Prop :=
  ∀ i, i < n → ∃ b off, ao = some ⟨b, off, none⟩ ∧ w.cell? ⟨b, off + i, none⟩ = some (f i)

theorem CellsAt.get {w : World} {ao : Option Addr} {n : Nat} {f : Nat → Value} (h : CellsAt w ao n f) {i : Nat} (hi : i < n) :
    ∃ b off, ao = some ⟨b, off, none⟩ ∧ ∀ j, j < n → w.cell? ⟨b, off + j, none⟩ = some (f j) := by
  obtain ⟨b, off, rfl, _⟩ := h i hi
  refine ⟨b, off, rfl, fun j hj => ?_⟩
  obtain ⟨b', off', e, h'⟩ := h j hj
  cases e
  exact h'

/-- A list of numbers. -/
def IntsAt (w : World) (ao : Option Addr) (xs : List Int) : Prop :=
  xs.length ≤ 1152921504606846976 ∧ CellsAt w ao xs.length (fun i => .int .i64 (xs.getD i 0))

theorem IntsAt.get {w : World} {ao : Option Addr} {xs : List Int} (h : IntsAt w ao xs) {i : Nat} (hi : i < xs.length) :
    ∃ b off, ao = some ⟨b, off, none⟩ ∧ ∀ j, j < xs.length → w.cell? ⟨b, off + j, none⟩ = some (.int .i64 (xs.getD j 0)) :=
  CellsAt.get h.2 hi

/-- What is known of a table. -/
structure TableD where
  cols : Int
  rows : Int
  k0 : Int
  k1 : Int
  k2 : Int
  k3 : Int

def TableD.vals (t : TableD) : Array Value := #[.int .i64 t.cols, .int .i64 t.rows, .int .i64 t.k0, .int .i64 t.k1, .int .i64 t.k2, .int .i64 t.k3]
def tz : TableD := ⟨0, 0, 0, 0, 0, 0⟩

/-- A list of tables: six cells each. -/
def TablesAt (w : World) (ao : Option Addr) (ts : List TableD) : Prop :=
  ts.length ≤ 192153584101141162 ∧ ∀ i, i < ts.length → ∃ b off, ao = some ⟨b, off, none⟩ ∧
    w.cell? ⟨b, off + i * 6, none⟩ = some (.int .i64 (ts.getD i tz).cols) ∧ w.cell? ⟨b, off + i * 6 + 1, none⟩ = some (.int .i64 (ts.getD i tz).rows) ∧
    w.cell? ⟨b, off + i * 6 + 2, none⟩ = some (.int .i64 (ts.getD i tz).k0) ∧ w.cell? ⟨b, off + i * 6 + 3, none⟩ = some (.int .i64 (ts.getD i tz).k1) ∧
    w.cell? ⟨b, off + i * 6 + 4, none⟩ = some (.int .i64 (ts.getD i tz).k2) ∧ w.cell? ⟨b, off + i * 6 + 5, none⟩ = some (.int .i64 (ts.getD i tz).k3)

/-- A condition. -/
structure CondD where
  not : Bool
  op : Int
  left : Int
  const : Bool
  right : Int

def cz : CondD := ⟨false, 0, 0, false, 0⟩
def CondD.val (c : CondD) : Value := .agg #[.bool c.not, .int .i64 c.op, .int .i64 c.left, .bool c.const, .int .i64 c.right]

/-- A list of conditions: five cells each. -/
def CondsAt (w : World) (ao : Option Addr) (cs : List CondD) : Prop :=
  cs.length ≤ 230584300921369395 ∧ ∀ i, i < cs.length → ∃ b off, ao = some ⟨b, off, none⟩ ∧
    w.cell? ⟨b, off + i * 5, none⟩ = some (.bool (cs.getD i cz).not) ∧ w.cell? ⟨b, off + i * 5 + 1, none⟩ = some (.int .i64 (cs.getD i cz).op) ∧
    w.cell? ⟨b, off + i * 5 + 2, none⟩ = some (.int .i64 (cs.getD i cz).left) ∧ w.cell? ⟨b, off + i * 5 + 3, none⟩ = some (.bool (cs.getD i cz).const) ∧
    w.cell? ⟨b, off + i * 5 + 4, none⟩ = some (.int .i64 (cs.getD i cz).right)

/-- A slice of conditions: its address, its capacity, what it holds. -/
structure ClauseV where
  ad : Option Addr
  cap : Nat
  cs : List CondD

def lz : ClauseV := ⟨none, 0, []⟩
def ClauseV.val (c : ClauseV) : Value := .slice c.ad c.cs.length c.cap

/-- A list of clauses: one cell each, which holds the slice of its conditions. -/
def ClausesAt (w : World) (ao : Option Addr) (ls : List ClauseV) : Prop :=
  ls.length ≤ 1152921504606846976 ∧ CellsAt w ao ls.length (fun i => (ls.getD i lz).val) ∧ ∀ i, i < ls.length → CondsAt w (ls.getD i lz).ad (ls.getD i lz).cs

/-- A slice of numbers. -/
structure IntsV where
  ad : Option Addr
  cap : Nat
  xs : List Int

def IntsV.val (v : IntsV) : Value := .slice v.ad v.xs.length v.cap
def IntsV.At (v : IntsV) (w : World) : Prop := IntsAt w v.ad v.xs

/-- A query, with the addresses of its lists. -/
structure QueryV where
  src : IntsV
  wad : Option Addr
  wcap : Nat
  wh : List ClauseV
  group : Bool
  keys : IntsV
  sums : IntsV
  sel : IntsV
  ord : IntsV

def QueryV.cells (q : QueryV) : Array Value := #[q.src.val, .slice q.wad q.wh.length q.wcap, .bool q.group, q.keys.val, q.sums.val, q.sel.val, q.ord.val]
structure QueryV.At (q : QueryV) (w : World) : Prop where
  src : q.src.At w
  wh : ClausesAt w q.wad q.wh
  keys : q.keys.At w
  sums : q.sums.At w
  sel : q.sel.At w
  ord : q.ord.At w

/-! Plain functions: what both sides answer. -/

def allB (xs : List Int) (n : Int) : Bool := xs.all fun x => decide (0 ≤ x) && decide (x < n)

theorem allB_take (xs : List Int) (n : Int) (k : Nat) (hk : k < xs.length) : allB (xs.take (k + 1)) n = (allB (xs.take k) n && (decide (0 ≤ xs[k]) && decide (xs[k] < n))) := by
  unfold allB
  rw [List.take_succ_eq_append_getElem hk, List.all_append, List.all_cons, List.all_nil, Bool.and_true]

theorem allB_bad (xs : List Int) (n : Int) (k : Nat) (hk : k < xs.length) (h : xs[k] < 0 ∨ n ≤ xs[k]) : allB xs n = false := by
  unfold allB
  rw [List.all_eq_false]
  refine ⟨xs[k], List.getElem_mem hk, ?_⟩
  simp
  omega

theorem allB_step {xs : List Int} {n : Int} {k : Nat} (hk : k < xs.length) (hp : allB (xs.take k) n = true) (h1 : ¬ xs[k] < 0) (h2 : xs[k] < n) : allB (xs.take (k + 1)) n = true := by
  rw [allB_take xs n k hk, hp]
  simp
  omega

theorem allB_whole {xs : List Int} {n : Int} {k : Nat} (hk : k ≤ xs.length) (hlt : ¬ k < xs.length) (hp : allB (xs.take k) n = true) : true = allB xs n := by
  have : k = xs.length := by omega
  subst this
  rw [List.take_length] at hp
  exact hp.symm

/-- No number twice: none of the first k stands among those ahead of it. -/
def apartB (xs : List Int) : Bool := decide (∀ i, i < xs.length → ∀ j, j < i → xs.getD i 0 ≠ xs.getD j 0)

theorem apartB_bad {xs : List Int} {i j : Nat} (hi : i < xs.length) (hj : j < i) (h : xs.getD i 0 = xs.getD j 0) : false = apartB xs := by
  symm
  unfold apartB
  rw [decide_eq_false_iff_not]
  intro h'
  exact h' i hi j hj h

theorem apartB_good {xs : List Int} (h : ∀ i, i < xs.length → ∀ j, j < i → xs.getD i 0 ≠ xs.getD j 0) : true = apartB xs := by
  symm
  unfold apartB
  rw [decide_eq_true_iff]
  exact h

/-- May a condition be, where there are n columns? -/
def condB (c : CondD) (n : Int) : Bool :=
  decide (0 ≤ c.left) && decide (c.left < n) && decide (0 ≤ c.op) && decide (c.op ≤ 2) &&
    (if c.op = 2 then !c.const && decide (c.right = 0) else if c.const then decide (-1000 ≤ c.right) && decide (c.right ≤ 1000) else decide (0 ≤ c.right) && decide (c.right ≤ n - 1))

/-- How many values a row that comes out has. -/
def outN (group : Bool) (keys sums sel : List Int) : Int := if group then keys.length + 1 + sums.length else sel.length

def TableD.kd (t : TableD) : Nat → Int
  | 0 => t.k0
  | 1 => t.k1
  | 2 => t.k2
  | _ => t.k3

theorem TableD.kd_cell (wr : World) (t : TableD) (ty : TypeId) (m : Nat) (hm : m < 4) :
    (wr.alloc (.cells #[.int .i64 t.cols, .int .i64 t.rows, .int .i64 t.k0, .int .i64 t.k1, .int .i64 t.k2, .int .i64 t.k3] ty)).cell? ⟨wr.heap.size, 2 + m, none⟩ = some (.int .i64 (t.kd m)) := by
  rcases (by omega : m = 0 ∨ m = 1 ∨ m = 2 ∨ m = 3) with rfl | rfl | rfl | rfl <;> simp [TableD.kd]

def tableB (t : TableD) : Bool :=
  decide (1 ≤ t.cols ∧ t.cols ≤ 4 ∧ 0 ≤ t.rows ∧ t.rows ≤ 1000000 ∧ ∀ m, m < t.cols.toNat → 1 ≤ t.kd m ∧ t.kd m ≤ 1000000)

theorem tableB_bad {t : TableD} (h : t.cols < 1 ∨ 4 < t.cols ∨ t.rows < 0 ∨ 1000000 < t.rows) : tableB t = false := by
  unfold tableB
  rw [decide_eq_false_iff_not]
  omega

theorem tableB_badk {t : TableD} (m : Nat) (hm : m < t.cols.toNat) (h : t.kd m < 1 ∨ 1000000 < t.kd m) : tableB t = false := by
  unfold tableB
  rw [decide_eq_false_iff_not]
  intro h'
  have := h'.2.2.2.2 m hm
  omega

theorem tableB_good {t : TableD} (h1 : 1 ≤ t.cols) (h2 : t.cols ≤ 4) (h3 : 0 ≤ t.rows) (h4 : t.rows ≤ 1000000) (h : ∀ m, m < t.cols.toNat → 1 ≤ t.kd m ∧ t.kd m ≤ 1000000) : tableB t = true := by
  unfold tableB
  rw [decide_eq_true_iff]
  exact ⟨h1, h2, h3, h4, h⟩

def catB (ts : List TableD) : Bool := decide (1 ≤ ts.length) && decide (ts.length ≤ 8) && ts.all tableB

theorem catB_short {ts : List TableD} (h : ts.length < 1) : false = catB ts := by
  unfold catB
  have : decide (1 ≤ ts.length) = false := decide_eq_false (by omega)
  rw [this, Bool.false_and, Bool.false_and]

theorem catB_long {ts : List TableD} (h : 8 < ts.length) : false = catB ts := by
  unfold catB
  have : decide (ts.length ≤ 8) = false := decide_eq_false (by omega)
  rw [this, Bool.and_false, Bool.false_and]

theorem catB_bad {ts : List TableD} {k : Nat} (hk : k < ts.length) (h : tableB (ts.getD k tz) = false) : false = catB ts := by
  unfold catB
  symm
  rw [Bool.and_eq_false_iff]
  right
  rw [List.all_eq_false]
  refine ⟨ts[k], List.getElem_mem hk, ?_⟩
  simp [List.getD, hk] at h
  simp [h]

theorem all_step {α : Type} {f : α → Bool} {ts : List α} {k : Nat} {z : α} (hk : k < ts.length) (hp : (ts.take k).all f = true) (h : f (ts.getD k z) = true) : (ts.take (k + 1)).all f = true := by
  rw [List.take_succ_eq_append_getElem hk, List.all_append, hp]
  simp [List.getD, hk] at h
  simp [h]

theorem catB_good {ts : List TableD} {k : Nat} (h0 : ¬ ts.length < 1) (h8 : ¬ 8 < ts.length) (hk : k ≤ ts.length) (hlt : ¬ k < ts.length) (hp : (ts.take k).all tableB = true) : true = catB ts := by
  have : k = ts.length := by omega
  subst this
  rw [List.take_length] at hp
  unfold catB
  rw [hp, decide_eq_true (show 1 ≤ ts.length by omega), decide_eq_true (show ts.length ≤ 8 by omega)]
  rfl

/-- A cell that is there lies in a block that is there. -/
theorem lt_of_cell {w : World} {b o : Nat} {v : Value} (h : w.cell? ⟨b, o, none⟩ = some v) : b < w.heap.size := by
  simp only [World.cell?] at h
  rcases Nat.lt_or_ge b w.heap.size with hb | hb
  · exact hb
  · simp [Array.getElem?_eq_none hb] at h

end Go.Scout

namespace Go.Scout
open Go.RowKit

/-- How many columns the sources have. -/
def widthN (ts : List TableD) (xs : List Int) : Int := (xs.map fun t => (ts.getD t.toNat tz).cols).sum

theorem widthN_snoc (ts : List TableD) (xs : List Int) (k : Nat) (hk : k < xs.length) : widthN ts (xs.take (k + 1)) = widthN ts (xs.take k) + (ts.getD xs[k].toNat tz).cols := by
  unfold widthN
  rw [List.take_succ_eq_append_getElem hk, List.map_append, List.sum_append]
  simp

theorem cols_of {ts : List TableD} (hc : catB ts = true) {i : Nat} (hi : i < ts.length) : 1 ≤ (ts.getD i tz).cols ∧ (ts.getD i tz).cols ≤ 4 := by
  unfold catB at hc
  rw [Bool.and_eq_true] at hc
  have h := List.all_eq_true.1 hc.2 (ts.getD i tz) (by simp [List.getD, hi])
  unfold tableB at h
  rw [decide_eq_true_iff] at h
  exact ⟨h.1, h.2.1⟩

theorem allB_at {xs : List Int} {n : Int} (h : allB xs n = true) {k : Nat} (hk : k < xs.length) : 0 ≤ xs[k] ∧ xs[k] < n := by
  unfold allB at h
  have := List.all_eq_true.1 h xs[k] (List.getElem_mem hk)
  simpa using this

theorem widthN_bd {ts : List TableD} {xs : List Int} (hc : catB ts = true) (ha : allB xs ts.length = true) : ∀ k, k ≤ xs.length → 0 ≤ widthN ts (xs.take k) ∧ widthN ts (xs.take k) ≤ 4 * k
  | 0, _ => by simp [widthN]
  | k + 1, hk => by
    have ih := widthN_bd hc ha k (by omega)
    rw [widthN_snoc ts xs k (by omega)]
    have h1 := allB_at ha (k := k) (by omega)
    have h2 := cols_of hc (i := (xs[k]'(by omega)).toNat) (by omega)
    omega

theorem cell_alloc {w : World} {b o : Nat} {v : Value} (h : w.cell? ⟨b, o, none⟩ = some v) (x : Obj) : (w.alloc x).cell? ⟨b, o, none⟩ = some v :=
  (Below.cell ((Below.refl w.heap.size w).alloc (Nat.le_refl _) x) (p := ⟨b, o, none⟩) (lt_of_cell h)).trans h

end Go.Scout

namespace Go.Scout
open Go.RowKit

theorem cell_below {w w' : World} (hb : Below w.heap.size w w') {b o : Nat} {v : Value} (h : w.cell? ⟨b, o, none⟩ = some v) : w'.cell? ⟨b, o, none⟩ = some v :=
  (hb.cell (p := ⟨b, o, none⟩) (lt_of_cell h)).trans h

theorem CellsAt.below {w w' : World} (hb : Below w.heap.size w w') {ao : Option Addr} {n : Nat} {f : Nat → Value} (h : CellsAt w ao n f) : CellsAt w' ao n f := fun i hi => by
  obtain ⟨b, off, e, hc⟩ := h i hi
  exact ⟨b, off, e, cell_below hb hc⟩

theorem IntsAt.below {w w' : World} (hb : Below w.heap.size w w') {ao : Option Addr} {xs : List Int} (h : IntsAt w ao xs) : IntsAt w' ao xs := ⟨h.1, h.2.below hb⟩

theorem TablesAt.below {w w' : World} (hb : Below w.heap.size w w') {ao : Option Addr} {ts : List TableD} (h : TablesAt w ao ts) : TablesAt w' ao ts := ⟨h.1, fun i hi => by
  obtain ⟨b, off, e, c0, c1, c2, c3, c4, c5⟩ := h.2 i hi
  exact ⟨b, off, e, cell_below hb c0, cell_below hb c1, cell_below hb c2, cell_below hb c3, cell_below hb c4, cell_below hb c5⟩⟩

theorem CondsAt.below {w w' : World} (hb : Below w.heap.size w w') {ao : Option Addr} {cs : List CondD} (h : CondsAt w ao cs) : CondsAt w' ao cs := ⟨h.1, fun i hi => by
  obtain ⟨b, off, e, c0, c1, c2, c3, c4⟩ := h.2 i hi
  exact ⟨b, off, e, cell_below hb c0, cell_below hb c1, cell_below hb c2, cell_below hb c3, cell_below hb c4⟩⟩

theorem ClausesAt.below {w w' : World} (hb : Below w.heap.size w w') {ao : Option Addr} {ls : List ClauseV} (h : ClausesAt w ao ls) : ClausesAt w' ao ls :=
  ⟨h.1, h.2.1.below hb, fun i hi => (h.2.2 i hi).below hb⟩

theorem QueryV.At.below {w w' : World} (hb : Below w.heap.size w w') {q : QueryV} (h : q.At w) : q.At w' :=
  ⟨IntsAt.below hb h.src, h.wh.below hb, IntsAt.below hb h.keys, IntsAt.below hb h.sums, IntsAt.below hb h.sel, IntsAt.below hb h.ord⟩

theorem below_alloc (w : World) (o : Obj) : Below w.heap.size w (w.alloc o) := (Below.refl _ _).alloc (Nat.le_refl _) o

/-- Two steps, each below its own start. -/
theorem Below.step {w w1 w2 : World} (h : Below w.heap.size w w1) (k : Below w1.heap.size w1 w2) : Below w.heap.size w w2 := h.trans (k.mono h.size)

theorem bcell {W w1 : World} (hb : Below W.heap.size W w1) : (∀ b o, b < W.heap.size → w1.cell? ⟨b, o, none⟩ = W.cell? ⟨b, o, none⟩) :=
  fun b o h => hb.cell (p := ⟨b, o, none⟩) h

/-! What Check answers. -/

def fullB (src : List Int) (wh : List (List CondD)) (keys sums sel ord : List Int) : Bool :=
  decide (5 < src.length ∨ 8 < wh.length ∨ 8 < sel.length ∨ 4 < keys.length ∨ 4 < sums.length ∨ 4 < ord.length) || wh.any (fun c => decide (3 < c.length))
def clauseB (c : List CondD) (n : Int) : Bool := decide (0 < c.length) && c.all (fun x => condB x n)
def clausesB (wh : List (List CondD)) (n : Int) : Bool := wh.all (fun c => clauseB c n)
def restB (n : Int) (group : Bool) (keys sums sel ord : List Int) : Bool :=
  allB sel n && allB keys n && allB sums n && allB ord (outN group keys sums sel) && apartB keys && apartB ord && (group == decide (sel.length = 0)) && (group || decide (keys.length + sums.length = 0))
def checkN (ts : List TableD) (src : List Int) (wh : List (List CondD)) (group : Bool) (keys sums sel ord : List Int) : Int :=
  if catB ts = false then 1
  else if fullB src wh keys sums sel ord = true then 2
  else if allB src ts.length = true ∧ 0 < src.length ∧ clausesB wh (widthN ts src) = true ∧ restB (widthN ts src) group keys sums sel ord = true then 0
  else 3
def QueryV.whs (q : QueryV) : List (List CondD) := q.wh.map ClauseV.cs
def QueryV.check (q : QueryV) (ts : List TableD) : Int := checkN ts q.src.xs q.whs q.group q.keys.xs q.sums.xs q.sel.xs q.ord.xs

theorem QueryV.check_cat {q : QueryV} {ts : List TableD} (h : catB ts = false) : (1 : Int) = q.check ts := by
  unfold QueryV.check checkN
  rw [if_pos h]

theorem fullB_of {src : List Int} {wh : List (List CondD)} {keys sums sel ord : List Int} (h : 5 < src.length ∨ 8 < wh.length ∨ 8 < sel.length ∨ 4 < keys.length ∨ 4 < sums.length ∨ 4 < ord.length) : fullB src wh keys sums sel ord = true := by
  unfold fullB
  rw [decide_eq_true h, Bool.true_or]

theorem QueryV.check_full {q : QueryV} {ts : List TableD} (h : catB ts = true) (hf : fullB q.src.xs q.whs q.keys.xs q.sums.xs q.sel.xs q.ord.xs = true) : (2 : Int) = q.check ts := by
  unfold QueryV.check checkN
  rw [if_neg (by simp [h]), if_pos hf]

theorem val_bool {a b : Bool} (h : a = b) : Value.bool a = .bool b := by rw [h]
theorem val_boolI {a b : Bool} (h : a = true ↔ b = true) : Value.bool a = .bool b := by rw [Bool.eq_iff_iff.2 h]

theorem fullB_any {src : List Int} {wh : List (List CondD)} {keys sums sel ord : List Int} (h : wh.any (fun c => decide (3 < c.length)) = true) : fullB src wh keys sums sel ord = true := by
  unfold fullB
  rw [h, Bool.or_true]

theorem fullB_no {src : List Int} {wh : List (List CondD)} {keys sums sel ord : List Int} (h : ¬ (5 < src.length ∨ 8 < wh.length ∨ 8 < sel.length ∨ 4 < keys.length ∨ 4 < sums.length ∨ 4 < ord.length))
    (h' : wh.any (fun c => decide (3 < c.length)) = false) : fullB src wh keys sums sel ord = false := by
  unfold fullB
  rw [h', decide_eq_false h]
  rfl

/-- Some clause of the first k has too many conditions. -/
def wideB (ls : List ClauseV) (k : Nat) : Bool := (ls.take k).any (fun c => decide (3 < c.cs.length))

theorem wideB_zero (ls : List ClauseV) : wideB ls 0 = false := by simp [wideB]
theorem wideB_succ {ls : List ClauseV} {k : Nat} (hk : k < ls.length) : wideB ls (k + 1) = (wideB ls k || decide (3 < (ls.getD k lz).cs.length)) := by
  unfold wideB
  rw [List.take_succ_eq_append_getElem hk, List.any_append]
  simp [List.getD, hk]
theorem wideB_all (q : QueryV) : q.whs.any (fun c => decide (3 < c.length)) = wideB q.wh q.wh.length := by
  unfold wideB QueryV.whs
  rw [List.take_length, List.any_map]
  rfl
theorem wideB_mono {ls : List ClauseV} {k : Nat} (hk : k < ls.length) (h : wideB ls ls.length = false) : (ls.getD k lz).cs.length ≤ 3 := by
  unfold wideB at h
  rw [List.take_length, List.any_eq_false] at h
  have := h (ls.getD k lz) (by simp [List.getD, hk])
  simpa using this

theorem QueryV.check_bad {q : QueryV} {ts : List TableD} (h : catB ts = true) (hf : fullB q.src.xs q.whs q.keys.xs q.sums.xs q.sel.xs q.ord.xs = false)
    (hr : ¬ (allB q.src.xs ts.length = true ∧ 0 < q.src.xs.length ∧ clausesB q.whs (widthN ts q.src.xs) = true ∧ restB (widthN ts q.src.xs) q.group q.keys.xs q.sums.xs q.sel.xs q.ord.xs = true)) : (3 : Int) = q.check ts := by
  unfold QueryV.check checkN
  rw [if_neg (by simp [h]), if_neg (by simp [hf]), if_neg hr]

theorem QueryV.check_ok {q : QueryV} {ts : List TableD} (h : catB ts = true) (hf : fullB q.src.xs q.whs q.keys.xs q.sums.xs q.sel.xs q.ord.xs = false)
    (hr : allB q.src.xs ts.length = true ∧ 0 < q.src.xs.length ∧ clausesB q.whs (widthN ts q.src.xs) = true ∧ restB (widthN ts q.src.xs) q.group q.keys.xs q.sums.xs q.sel.xs q.ord.xs = true) : (0 : Int) = q.check ts := by
  unfold QueryV.check checkN
  rw [if_neg (by simp [h]), if_neg (by simp [hf]), if_pos hr]

theorem clausesB_bad {q : QueryV} {n : Int} {k : Nat} (hk : k < q.wh.length) (h : clauseB (q.wh.getD k lz).cs n = false) : clausesB q.whs n = false := by
  unfold clausesB QueryV.whs
  rw [List.all_map, List.all_eq_false]
  refine ⟨q.wh[k], List.getElem_mem hk, ?_⟩
  simp [List.getD, hk] at h
  simp [h]

theorem clausesB_good {q : QueryV} {n : Int} (h : ∀ k, k < q.wh.length → clauseB (q.wh.getD k lz).cs n = true) : clausesB q.whs n = true := by
  unfold clausesB QueryV.whs
  rw [List.all_map, List.all_eq_true]
  intro c hc
  obtain ⟨k, hk, rfl⟩ := List.getElem_of_mem hc
  have := h k hk
  simpa [List.getD, hk] using this

theorem clauseB_none {c : List CondD} {n : Int} (h : ¬ 0 < c.length) : clauseB c n = false := by
  unfold clauseB
  rw [decide_eq_false h, Bool.false_and]

theorem clauseB_bad {c : List CondD} {n : Int} {k : Nat} (hk : k < c.length) (h : condB (c.getD k cz) n = false) : clauseB c n = false := by
  unfold clauseB
  have : c.all (fun x => condB x n) = false := by
    rw [List.all_eq_false]
    refine ⟨c[k], List.getElem_mem hk, ?_⟩
    simp [List.getD, hk] at h
    simp [h]
  rw [this, Bool.and_false]

theorem clauseB_good {c : List CondD} {n : Int} (h0 : 0 < c.length) (h : ∀ k, k < c.length → condB (c.getD k cz) n = true) : clauseB c n = true := by
  unfold clauseB
  rw [decide_eq_true h0, Bool.true_and, List.all_eq_true]
  intro x hx
  obtain ⟨k, hk, rfl⟩ := List.getElem_of_mem hx
  have := h k hk
  simpa [List.getD, hk] using this

end Go.Scout

