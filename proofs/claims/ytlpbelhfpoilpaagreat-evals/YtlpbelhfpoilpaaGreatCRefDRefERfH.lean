import Derived.Test.YtlpbelhfpoilpaaGreatCCatAItDItEBase4
import Derived.Test.YtlpbelhfpoilpaaGreatCRfGRfAEvC
import Derived.Test.YtlpbelhfpoilpaaGreatCEvDSoLSoMSoN
import Derived.Test.YtlpbelhfpoilpaaGreatCEvXAllCondCat
import Derived.Test.YtlpbelhfpoilpaaGreatCWidthRefARefBRefC
set_option linter.all false
namespace Go.Proofs.YtlpbelhfpoilpaaGreat
open Go.RowKit Go.Scout

set_option maxRecDepth 100000 in
set_option maxHeartbeats 8000000 in
theorem ref_main (ao : Option Addr) (cap : Nat) (ts : List TableD) (q : QueryV) (w : World) (hx : TablesAt w ao ts) (hq : q.At w) (hc : catB ts = true)
    (hf : ¬ (5 < q.src.xs.length ∨ 8 < q.wh.length ∨ 8 < q.sel.xs.length ∨ 4 < q.keys.xs.length ∨ 4 < q.sums.xs.length ∨ 4 < q.ord.xs.length)) (hw : wideB q.wh q.wh.length = false) :
    Calls Tryz.prog 20 #[.slice ao ts.length cap, .agg q.cells] w fun e w' => e = .returned (.int .i64 (q.check ts)) ∧ Below w.heap.size w w' := by
  have hfull : fullB q.src.xs q.whs q.keys.xs q.sums.xs q.sel.xs q.ord.xs = false := fullB_no (by simpa [QueryV.whs] using hf) (by rw [wideB_all]; exact hw)
  have HBAD := @QueryV.check_bad q ts hc hfull
  have HOK := @QueryV.check_ok q ts hc hfull
  have HCB := @clausesB_bad q (widthN ts q.src.xs)
  have HCG := @clausesB_good q (widthN ts q.src.xs)
  have hx1 := fun o => hx.below (below_alloc w o)
  have hwm := @wideB_mono q.wh
  generalize hR : q.check ts = R at *
  generalize hqv : q.cells = C at *
  have hcv : C = q.cells := hqv.symm
  clear hqv
  obtain ⟨src, wad, wcap, wh, group, keys, sums, sel, ord⟩ := q
  have hcv' := hcv
  unfold QueryV.cells IntsV.val at hcv'
  subst hcv'
  simp only at hf hw HBAD HOK HCB HCG hwm
  have hsrc : IntsAt w src.ad src.xs := hq.src
  have hkeys : IntsAt w keys.ad keys.xs := hq.keys
  have hsums : IntsAt w sums.ad sums.xs := hq.sums
  have hsel : IntsAt w sel.ad sel.xs := hq.sel
  have hord : IntsAt w ord.ad ord.xs := hq.ord
  have hwh : ClausesAt w wad wh := hq.wh
  clear hq
  have h1 : ¬ 5 < src.xs.length := by omega
  have h2 : ¬ 8 < wh.length := by omega
  have h3 : ¬ 8 < sel.xs.length := by omega
  have h4 : ¬ 4 < keys.xs.length := by omega
  have h5 : ¬ 4 < sums.xs.length := by omega
  have h6 : ¬ 4 < ord.xs.length := by omega
  have HW : Hid (∀ k, k < wh.length → (wh.getD k lz).cs.length ≤ 3) := fun k hk => hwm hk hw
  have HBD : Hid _ := HBAD
  have HOK' : Hid _ := HOK
  have HCB' : Hid (∀ {k : Nat}, k < wh.length → clauseB (wh.getD k lz).cs (widthN ts src.xs) = false → _) := HCB
  have HCG' : Hid _ := HCG
  have HCV : Hid _ := hcv
  clear hf hw hwm HBAD HOK HCB HCG hcv hfull hR
  go_enter Tryz.func20, Tryz.ntmps20
  go_wp2_with (go_at_call 45; refine (isCatalog_any _ _ _ _ (hx1 _)).mono ?_; rw [hc]; rintro e w' ⟨rfl, hb⟩; have hcell := bcell hb; simp at hcell)
  go_loop [6, 7] (fun f i => ∃ k : Nat, k ≤ wh.length ∧ i = .int .i64 k ∧ f = .bool false) (fun _ i => wh.length - (intOf i).toNat)
  case atStart => exact ⟨0, Nat.zero_le _, rfl, val_boolI (by simp; omega)⟩
  case round =>
    obtain ⟨k, hk, rfl, rfl⟩ := hrel
    by_cases hlt : k < wh.length
    · have hw3 := HW.out k hlt
      obtain ⟨b, off, rfl, hcl⟩ := hwh.2.1.get hlt
      have hck := cell_below (Below.step (below_alloc _ _) hb) (hcl k hlt)
      unfold ClauseV.val at hck
      generalize (wh.getD k lz).ad = ad at *
      generalize (wh.getD k lz).cap = cp at *
      generalize (wh.getD k lz).cs.length = cl at *
      have h3c : ¬ 3 < cl := by omega
      clear hcl hw3 hsrc hkeys hsums hsel hord hwh
      go_wp2
      go_round
      case rel => exact ⟨k + 1, by omega, by go_num, val_boolI (by simp; omega)⟩
      case measure => simp [intOf]; omega
    · have hz : w.heap.size < w'.heap.size := by have := hb.size; simp at this; omega
      have hb0 := Below.step (below_alloc _ _) hb
      by_cases ha : allB src.xs ts.length = true
      · go_wp2_with fail
        have hC := all_any src.ad src.cap src.xs ts.length w' (hsrc.below hb0)
        rw [ha] at hC
        refine hC.mono ?_
        clear hC
        rintro e w2 ⟨rfl, rfl⟩
        by_cases h0 : src.xs.length = 0
        · have HF : Hid ((3 : Int) = R) := HBD.out (fun h => by have := h.2.1; omega)
          go_wp2
          go_ret
          exact ⟨ret_int HF.out, hb0⟩
        · have h0' : ((src.xs.length : Int) == 0) = false := by simpa using h0
          have hn := widthN_bd hc ha _ (Nat.le_refl src.xs.length)
          rw [List.take_length] at hn
          have hn0 : 0 ≤ widthN ts src.xs := hn.1
          have hn1 : widthN ts src.xs ≤ 1000 := by omega
          have hC := width_any ao cap ts ⟨src, wad, wcap, wh, group, keys, sums, sel, ord⟩ w2 (hx.below hb0) hc (hsrc.below hb0) (by simp only; omega) ha
          unfold QueryV.cells IntsV.val at hC
          simp only at hC
          generalize hN : widthN ts src.xs = N at *
          clear hn hN
          go_wp2_with fail
          refine hC.mono ?_
          clear hC
          rintro e w3 ⟨rfl, hb3⟩
          have hsz : w.heap.size + 1 ≤ w2.heap.size := hz
          have hb03 := Below.step hb0 hb3
          have f0 : w3.cell? ⟨w.heap.size, 0, none⟩ = some (.slice src.ad src.xs.length src.cap) := cell_below hb3 (by rw [hcell _ _ (by omega)]; simp)
          have f1 : w3.cell? ⟨w.heap.size, 1, none⟩ = some (.slice wad wh.length wcap) := cell_below hb3 (by rw [hcell _ _ (by omega)]; simp)
          have f2 : w3.cell? ⟨w.heap.size, 2, none⟩ = some (.bool group) := cell_below hb3 (by rw [hcell _ _ (by omega)]; simp)
          have f3 : w3.cell? ⟨w.heap.size, 3, none⟩ = some (.slice keys.ad keys.xs.length keys.cap) := cell_below hb3 (by rw [hcell _ _ (by omega)]; simp)
          have f4 : w3.cell? ⟨w.heap.size, 4, none⟩ = some (.slice sums.ad sums.xs.length sums.cap) := cell_below hb3 (by rw [hcell _ _ (by omega)]; simp)
          have f5 : w3.cell? ⟨w.heap.size, 5, none⟩ = some (.slice sel.ad sel.xs.length sel.cap) := cell_below hb3 (by rw [hcell _ _ (by omega)]; simp)
          have f6 : w3.cell? ⟨w.heap.size, 6, none⟩ = some (.slice ord.ad ord.xs.length ord.cap) := cell_below hb3 (by rw [hcell _ _ (by omega)]; simp)
          clear hcell hb hx1 hx hsrc hz
          go_wp2_with fail
          go_loopw [10] (fun i wr => ∃ k : Nat, k ≤ wh.length ∧ i = .int .i64 k ∧ Hid (∀ j, j < k → clauseB (wh.getD j lz).cs N = true) ∧ Below w3.heap.size w3 wr) (fun i _ => wh.length - (intOf i).toNat)
          case atStart => exact ⟨0, Nat.zero_le _, rfl, fun j hj => absurd hj (by omega), Below.refl _ _⟩
          case round =>
            obtain ⟨k, hk, rfl, HP, hbr⟩ := hrel
            have g1 := cell_below hbr f1
            by_cases hlt : k < wh.length
            · obtain ⟨b, off, rfl, hcl⟩ := hwh.2.1.get hlt
              have hck := cell_below hb03 (hcl k hlt)
              have hcd := (hwh.2.2 k hlt).below hb03
              have HBc : Hid (clauseB (wh.getD k lz).cs N = false → (3 : Int) = R) := fun hcc => HBD.out (fun h => by have := h.2.2.1; rw [HCB'.out hlt hcc] at this; cases this)
              generalize hge : wh.getD k lz = cl at *
              have HGE : Hid (wh.getD k lz = cl) := hge
              clear hge hcl
              obtain ⟨ad, cp, cs⟩ := cl
              unfold ClauseV.val at hck
              simp only at hck hcd
              have hcl2 := hcd.1
              have gk := cell_below hbr hck
              go_wp2
              go_loopw [11] (fun i wr2 => ∃ m : Nat, m ≤ cs.length ∧ i = .int .i64 m ∧ Hid (∀ j, j < m → condB (cs.getD j cz) N = true) ∧ Below w3.heap.size w3 wr2) (fun i _ => cs.length - (intOf i).toNat)
              case atStart => exact ⟨0, Nat.zero_le _, rfl, fun j hj => absurd hj (by omega), hbr⟩
              case round =>
                obtain ⟨m, hm, rfl, HM, hbr2⟩ := hrel
                clear g1 gk
                have g1 := cell_below hbr2 f1
                have gk := cell_below hbr2 hck
                by_cases hml : m < cs.length
                · obtain ⟨b2, off2, rfl, c0, c1, c2, c3, c4⟩ := hcd.2 m hml
                  have d0 := cell_below hbr2 c0
                  have d1 := cell_below hbr2 c1
                  have d2 := cell_below hbr2 c2
                  have d3 := cell_below hbr2 c3
                  have d4 := cell_below hbr2 c4
                  clear c0 c1 c2 c3 c4
                  have hC := isCond_any (cs.getD m cz) N wr hn0 hn1
                  unfold CondD.val at hC
                  generalize hgc : cs.getD m cz = cc at *
                  have HGC : Hid (cs.getD m cz = cc) := hgc
                  clear hgc
                  cases hcb : condB cc N
                  · rw [hcb] at hC
                    have HF : Hid ((3 : Int) = R) := HBc.out (clauseB_bad hml (by rw [HGC.out]; exact hcb))
                    go_wp2_with fail
                    refine hC.mono ?_
                    clear hC
                    rintro e w4 ⟨rfl, hb4⟩
                    go_wp2
                    go_ret
                    exact ⟨ret_int HF.out, Below.step hb03 (Below.step hbr2 hb4)⟩
                  · rw [hcb] at hC
                    have HCB2 : Hid (condB cc N = true) := hcb
                    clear hcb
                    go_wp2_with fail
                    refine hC.mono ?_
                    clear hC
                    rintro e w4 ⟨rfl, hb4⟩
                    go_wp2
                    go_roundw
                    case rel =>
                      refine ⟨m + 1, by omega, by go_num, fun j hj => ?_, Below.step hbr2 hb4⟩
                      by_cases hjm : j = m
                      · subst hjm; rw [HGC.out]; exact HCB2.out
                      · exact HM.out j (by omega)
                    case measure => simp [intOf]; omega
                · by_cases hc0 : cs.length = 0
                  · have HF : Hid ((3 : Int) = R) := HBc.out (clauseB_none (by omega))
                    go_wp2
                    go_ret
                    exact ⟨ret_int HF.out, Below.step hb03 hbr2⟩
                  · have hc0' : ((cs.length : Int) == 0) = false := by simpa using hc0
                    have HG : Hid (clauseB cs N = true) := clauseB_good (by omega) (fun j hj => HM.out j (by omega))
                    clear hc0
                    go_wp2
                    go_roundw
                    case rel =>
                      refine ⟨k + 1, by omega, by go_num, fun j hj => ?_, hbr2⟩
                      by_cases hjk : j = k
                      · subst hjk; rw [HGE.out]; exact HG.out
                      · exact HP.out j (by omega)
                    case measure => simp [intOf]; omega
            · have HCL : Hid (clausesB (QueryV.whs ⟨src, wad, wcap, wh, group, keys, sums, sel, ord⟩) N = true) := HCG'.out (fun j hj => HP.out j (by omega))
              have g2 := cell_below hbr f2
              have g3 := cell_below hbr f3
              have g4 := cell_below hbr f4
              have g5 := cell_below hbr f5
              have g6 := cell_below hbr f6
              have hbw := Below.step hb03 hbr
              have g0 := cell_below hbr f0
              clear hwh f0 f1 f2 f3 f4 f5 f6 HP HCG' HCB' hbr hb03 hb3 hb0
              go_wp2_with fail
              refine (all_any sel.ad sel.cap sel.xs N wr (hsel.below hbw)).mono ?_
              rintro e wa ⟨rfl, rfl⟩
              go_wp2_with fail
              refine (all_any keys.ad keys.cap keys.xs N wa (hkeys.below hbw)).mono ?_
              rintro e wb ⟨rfl, rfl⟩
              go_wp2_with fail
              refine (all_any sums.ad sums.cap sums.xs N wb (hsums.below hbw)).mono ?_
              rintro e wc ⟨rfl, rfl⟩
              go_wp2_with fail
              refine wp_region_below (by kernel_rfl) (by kernel_rfl) ?_
              refine BigFrame.wpQuiet_want rfl (fun K hK => ⟨.pointer (some ⟨w.heap.size, 6, none⟩), fun x hx => ?_, hK _ ?_⟩)
              · clear hK K; go_simp
              clear hK K
              refine BigFrame.wpQuiet_want rfl (fun K hK => ⟨.slice ord.ad ord.xs.length ord.cap, fun x hx => ?_, hK _ ?_⟩)
              · have e6 := cell_below hx g6
                clear hK K; go_simp
              clear hK K
              refine BigFrame.wpQuiet_want rfl (fun K hK => ⟨.agg #[.slice src.ad src.xs.length src.cap, .slice wad wh.length wcap, .bool group, .slice keys.ad keys.xs.length keys.cap, .slice sums.ad sums.xs.length sums.cap, .slice sel.ad sel.xs.length sel.cap, .slice ord.ad ord.xs.length ord.cap], fun x hx => ?_, hK _ ?_⟩)
              · have e0 := cell_below hx g0
                have e1 := cell_below hx g1
                have e2 := cell_below hx g2
                have e3 := cell_below hx g3
                have e4 := cell_below hx g4
                have e5 := cell_below hx g5
                have e6 := cell_below hx g6
                clear hK K; go_simp
              clear hK K
              refine BigFrame.wpQuiet_want rfl (fun K hK => ⟨.int .i64 (outN group keys.xs sums.xs sel.xs), fun x hx => ?_, hK _ ?_⟩)
              · have hC := Calls.within hx (out_any ⟨src, wad, wcap, wh, group, keys, sums, sel, ord⟩ x (by simp only; omega) (by simp only; omega))
                unfold QueryV.cells IntsV.val at hC
                clear hK K; go_simp
              clear hK K
              refine BigFrame.wpQuiet_want rfl (fun K hK => ⟨.bool (allB ord.xs (outN group keys.xs sums.xs sel.xs)), fun x hx => ?_, hK _ ?_⟩)
              · have hC := Calls.within_same hx (all_any ord.ad ord.cap ord.xs (outN group keys.xs sums.xs sel.xs) x ((hord.below hbw).below hx))
                clear hK K; go_simp
              clear hK K
              refine BigFrame.wpQuiet_want rfl (fun K hK => ⟨.bool (allB ord.xs (outN group keys.xs sums.xs sel.xs)), fun x hx => ?_, hK _ ?_⟩)
              · clear hK K; go_simp
              clear hK K
              refine wpQuiet_nil ?_
              intro wd hbd
              have hbw2 := Below.step hbw hbd
              have k2 := cell_below hbd g2
              have k3 := cell_below hbd g3
              have k4 := cell_below hbd g4
              have k5 := cell_below hbd g5
              have k6 := cell_below hbd g6
              clear g0 g1 g2 g3 g4 g5 g6 hsums hsel hbd hbw
              go_wp2_with fail
              refine (Calls.drawn (apart_any keys.ad keys.cap keys.xs wd (hkeys.below hbw2))).mono ?_
              rintro e we ⟨rfl, hbe⟩
              have hbw3 := Below.step hbw2 hbe
              have g2 := cell_below hbe k2
              have g3 := cell_below hbe k3
              have g4 := cell_below hbe k4
              have g5 := cell_below hbe k5
              have g6 := cell_below hbe k6
              clear k2 k3 k4 k5 k6 hbe hbw2 hkeys
              go_wp2_with fail
              refine (Calls.drawn (apart_any ord.ad ord.cap ord.xs we (hord.below hbw3))).mono ?_
              rintro e wf ⟨rfl, hbe⟩
              have hbw4 := Below.step hbw3 hbe
              have k2 := cell_below hbe g2
              have k3 := cell_below hbe g3
              have k4 := cell_below hbe g4
              have k5 := cell_below hbe g5
              clear g2 g3 g4 g5 g6 hbe hbw3 hord
              have HR3 : Hid (restB N group keys.xs sums.xs sel.xs ord.xs = false → (3 : Int) = R) := fun hr => HBD.out (fun h => by have := h.2.2.2; rw [hr] at this; cases this)
              have HR0 : Hid (restB N group keys.xs sums.xs sel.xs ord.xs = true → (0 : Int) = R) := fun hr => HOK'.out ⟨ha, by omega, HCL.out, hr⟩
              go_wp2
              all_goals
                go_ret
                first
                | exact ⟨ret_int (HR3.out (rest_sel ‹_›)), hbw4⟩
                | exact ⟨ret_int (HR3.out (rest_keys ‹_›)), hbw4⟩
                | exact ⟨ret_int (HR3.out (rest_sums ‹_›)), hbw4⟩
                | exact ⟨ret_int (HR3.out (rest_ord ‹_›)), hbw4⟩
                | exact ⟨ret_int (HR3.out (rest_ak ‹_›)), hbw4⟩
                | exact ⟨ret_int (HR3.out (rest_ao ‹_›)), hbw4⟩
                | exact ⟨ret_int (HR3.out (rest_grp ‹_›)), hbw4⟩
                | exact ⟨ret_int (HR3.out (rest_ks ‹_› ‹_›)), hbw4⟩
                | exact ⟨ret_int (HR0.out (rest_ok1 ‹_› ‹_› ‹_› ‹_› ‹_› ‹_› ‹_› ‹_›)), hbw4⟩
                | exact ⟨ret_int (HR0.out (rest_ok2 ‹_› ‹_› ‹_› ‹_› ‹_› ‹_› ‹_› ‹_›)), hbw4⟩
      · have ha' : allB src.xs ts.length = false := by simpa using ha
        have HF : Hid ((3 : Int) = R) := HBD.out (fun h => ha h.1)
        go_wp2_with fail
        have hC := all_any src.ad src.cap src.xs ts.length w' (hsrc.below hb0)
        rw [ha'] at hC
        refine hC.mono ?_
        clear hC
        rintro e w2 ⟨rfl, rfl⟩
        go_wp2
        go_ret
        exact ⟨ret_int HF.out, hb0⟩

end Go.Proofs.YtlpbelhfpoilpaaGreat

namespace Go.Proofs.YtlpbelhfpoilpaaGreat
open Go.RowKit Go.Scout

theorem refCheck_any (ao : Option Addr) (cap : Nat) (ts : List TableD) (q : QueryV) (w : World) (hx : TablesAt w ao ts) (hq : q.At w) :
    Calls Tryz.prog 20 #[.slice ao ts.length cap, .agg q.cells] w fun e w' => e = .returned (.int .i64 (q.check ts)) ∧ Below w.heap.size w w' := by
  cases hc : catB ts
  · exact ref_nocat ao cap ts q w hx hc
  · by_cases hf : 5 < q.src.xs.length ∨ 8 < q.wh.length ∨ 8 < q.sel.xs.length ∨ 4 < q.keys.xs.length ∨ 4 < q.sums.xs.length ∨ 4 < q.ord.xs.length
    · exact ref_full1 ao cap ts q w hx hq hc hf
    · cases hw : wideB q.wh q.wh.length
      · exact ref_main ao cap ts q w hx hq hc hf hw
      · exact ref_full2 ao cap ts q w hx hq hc hf hw

end Go.Proofs.YtlpbelhfpoilpaaGreat

namespace Go.Scout
open Go.RowKit

theorem kept_holds (ls : List ClauseV) (xs : List Int) : keptB ls (numsTo ls.length) xs = holdsB ls xs := by
  unfold keptB holdsB numsTo
  rw [Bool.eq_iff_iff, List.all_map, List.all_eq_true, List.all_eq_true]
  constructor
  · intro h c hc
    obtain ⟨i, hi, rfl⟩ := List.getElem_of_mem hc
    have := h i (List.mem_range.2 hi)
    simpa [List.getD, hi] using this
  · intro h i hi
    have hi' := List.mem_range.1 hi
    have := h ls[i] (List.getElem_mem hi')
    simpa [List.getD, hi'] using this

theorem nums_all (n : Nat) : allB (numsTo n) (n : Int) = true := by
  unfold allB numsTo
  rw [List.all_map, List.all_eq_true]
  intro i hi
  have := List.mem_range.1 hi
  simp
  omega

/-- How many combinations of the first sources there are. -/
def manyN (src : List Int) (db : List RowsV) : Nat := src.foldl (fun n t => n * (db.getD t.toNat rz).rs.length) 1
theorem manyN_succ {src : List Int} {db : List RowsV} {k : Nat} (hk : k < src.length) : manyN (src.take (k + 1)) db = manyN (src.take k) db * (db.getD src[k].toNat rz).rs.length := by
  unfold manyN
  rw [List.take_succ_eq_append_getElem hk, List.foldl_append]
  rfl
theorem manyN_le (src : List Int) (db : List RowsV) : manyN src db ≤ prodN src db := by
  have hg : ∀ (l : List Int) (m n : Nat), m ≤ n → l.foldl (fun n t => n * (db.getD t.toNat rz).rs.length) m ≤ l.foldl (fun n t => n * max 1 (db.getD t.toNat rz).rs.length) n := by
    intro l
    induction l with
    | nil => intro m n h; exact h
    | cons a l ih =>
      intro m n h
      exact ih _ _ (Nat.mul_le_mul h (by omega))
  exact hg src 1 1 (Nat.le_refl _)
theorem manyN_combos {src : List Int} (h : 0 < src.length) (db : List RowsV) : manyN src db = (combosN src db).length := by
  unfold combosN
  cases src with
  | nil => simp at h
  | cons a l =>
    rw [List.map_cons, combosT_len]
    show (a :: l).foldl (fun n t => n * (db.getD t.toNat rz).rs.length) 1 = (l.map (tabN db)).foldl (fun n x => n * x.length) (tabN db a).length
    rw [List.foldl_cons, Nat.one_mul, List.foldl_map, tabN_len]
    congr 1
    funext n t
    rw [tabN_len]

theorem okV_val {v : Int} (h : valB v = true) : okV v := by
  unfold valB at h
  unfold okV
  rw [Bool.or_eq_true, Bool.and_eq_true] at h
  simpa using h

theorem getD_all {p : Int → Prop} {r : List Int} (h : ∀ v ∈ r, p v) (h0 : p 0) (k : Nat) : p (r.getD k 0) := by
  by_cases hk : k < r.length
  · have e : r.getD k 0 = r[k] := by simp [List.getD, hk]
    rw [e]; exact h _ (List.getElem_mem hk)
  · have e : r.getD k 0 = 0 := by simp [List.getD, hk]
    rw [e]; exact h0

theorem tabN_ok {ts : List TableD} {db : List RowsV} (h : dbB ts db = true) (t : Int) : ∀ r ∈ tabN db t, ∀ v ∈ r, okV v := by
  intro r hr v hv
  unfold tabN at hr
  obtain ⟨x, hx, rfl⟩ := List.mem_map.1 hr
  by_cases hi : t.toNat < db.length
  · unfold dbB at h
    rw [List.all_eq_true] at h
    have h1 := h t.toNat (by simpa using hi)
    unfold tabB fitB at h1
    simp only [Bool.and_eq_true] at h1
    have h2 := List.all_eq_true.1 h1.2 x hx
    exact okV_val (List.all_eq_true.1 (rowB_at h2).2 v hv)
  · have : db.getD t.toNat rz = rz := by simp [List.getD, hi]
    rw [this] at hx
    simp [rz] at hx
theorem joinN_ok {L R : List (List Int)} (hL : ∀ r ∈ L, ∀ v ∈ r, okV v) (hR : ∀ r ∈ R, ∀ v ∈ r, okV v) : ∀ r ∈ joinN L R, ∀ v ∈ r, okV v := by
  intro r hr v hv
  unfold joinN at hr
  obtain ⟨x, hx, hr⟩ := List.mem_flatMap.1 hr
  obtain ⟨y, hy, rfl⟩ := List.mem_map.1 hr
  rcases List.mem_append.1 hv with h | h
  · exact hL x hx v h
  · exact hR y hy v h
theorem combos_ok {ts : List TableD} {db : List RowsV} (h : dbB ts db = true) (src : List Int) : ∀ r ∈ combosN src db, ∀ v ∈ r, okV v := by
  have hg : ∀ (ts' : List (List (List Int))) (t : List (List Int)), (∀ r ∈ t, ∀ v ∈ r, okV v) → (∀ u ∈ ts', ∀ r ∈ u, ∀ v ∈ r, okV v) → ∀ r ∈ ts'.foldl joinN t, ∀ v ∈ r, okV v := by
    intro ts'
    induction ts' with
    | nil => intro t h _; exact h
    | cons x l ih => intro t h hx; exact ih _ (joinN_ok h (hx x (by simp))) (fun u hu => hx u (by simp [hu]))
  unfold combosN
  cases src with
  | nil => intro r hr; simp [combosT] at hr
  | cons a l => exact hg _ _ (tabN_ok h a) (fun u hu => by
      obtain ⟨t, _, rfl⟩ := List.mem_map.1 hu
      exact tabN_ok h t)

/-- The rows that come out, as the document tells them. -/
def refRows (q : QueryV) (rows : List (List Int)) : List (List Int) := if q.group = true then refGroups q.keys.xs q.sums.xs rows else rows.map fun r => pickN r q.sel.xs
theorem refRows_out {q : QueryV} {rows : List (List Int)} (hl : rows.length ≤ 100000) (hv : ∀ r ∈ rows, ∀ v ∈ r, okV v) : refRows q rows = outRows q rows := by
  unfold refRows outRows
  split
  · exact (groups_ref hl (fun r hr c _ => getD_all (hv r hr) (.inr ⟨by omega, by omega⟩) _)).symm
  · rfl

end Go.Scout
namespace Go.Proofs.YtlpbelhfpoilpaaGreat
open Go.RowKit Go.Scout

set_option maxRecDepth 20000 in
set_option maxHeartbeats 16000000 in
theorem refEvalC_any (co d : Option Addr) (cc dcap n : Nat) (ts : List TableD) (q : QueryV) (w : World) (hts : TablesAt w co ts) (hq : q.At w) (hchk : ¬ q.check ts = 0) :
    Calls Tryz.prog 8 #[.slice co ts.length cc, .agg q.cells, .slice d n dcap] w fun e w' => e = .returned (.tuple #[.slice none 0 0, .int .i64 (q.check ts)]) ∧ Below w.heap.size w w' := by
  have hb0 := below_alloc w (.cells q.cells 26)
  have hc1 := refCheck_any co cc ts q _ (hts.below hb0) (hq.below hb0)
  have hne : (q.check ts != 0) = true := by simpa using hchk
  obtain ⟨w0, hw0⟩ : ∃ w0, w.alloc (.cells q.cells 26) = w0 := ⟨_, rfl⟩
  have HX : Hid (w0.cell? ⟨w.heap.size, 0, none⟩ = some q.src.val ∧ w0.cell? ⟨w.heap.size, 1, none⟩ = some (.slice q.wad q.wh.length q.wcap) ∧ w0.cell? ⟨w.heap.size, 2, none⟩ = some (.bool q.group) ∧ w0.cell? ⟨w.heap.size, 3, none⟩ = some q.keys.val ∧ w0.cell? ⟨w.heap.size, 4, none⟩ = some q.sums.val ∧ w0.cell? ⟨w.heap.size, 5, none⟩ = some q.sel.val ∧ w0.cell? ⟨w.heap.size, 6, none⟩ = some q.ord.val) := by
    rw [← hw0]; unfold QueryV.cells; refine ⟨?_, ?_, ?_, ?_, ?_, ?_, ?_⟩ <;> simp
  rw [hw0] at hc1 hb0
  have HB0 : Hid _ := hb0
  have HW0 : Hid _ := hw0
  clear hb0 hw0 hts hq hchk
  generalize q.check ts = ec at *
  obtain ⟨⟨sad, scap, sxs⟩, wad, wcap, wh, group, keys, sums, ⟨lad, lcap, lxs⟩, ⟨oad, ocap, oxs⟩⟩ := q
  unfold QueryV.cells IntsV.val at *
  simp only at *
  obtain ⟨c0, c1, c2, c3, c4, c5, c6⟩ := HX.out
  go_enter Tryz.func8, Tryz.ntmps8
  go_wp2_with fail
  rw [HW0.out]
  refine hc1.mono ?_
  rintro e w1 ⟨rfl, hb1⟩
  clear hc1 c0 c1 c2 c3 c4 c5 c6
  go_wp2
  go_ret2
  exact ⟨rfl, HB0.out.trans (hb1.mono HB0.out.size)⟩

set_option maxRecDepth 20000 in
set_option maxHeartbeats 16000000 in
theorem refEvalD_any (co d : Option Addr) (cc dcap : Nat) (ts : List TableD) (q : QueryV) (db : List RowsV) (w : World) (hts : TablesAt w co ts) (hq : q.At w) (hdb : DbAt w d db) (hchk : q.check ts = 0) (hdat : ¬ dataB ts q.src.xs db = true) :
    Calls Tryz.prog 8 #[.slice co ts.length cc, .agg q.cells, .slice d db.length dcap] w fun e w' => e = .returned (.tuple #[.slice none 0 0, .int .i64 4]) ∧ Below w.heap.size w w' := by
  obtain ⟨p1, p2, p3, p4, p5, p6⟩ := check_parts hchk
  have hf := full_parts p2
  have hb0 := below_alloc w (.cells q.cells 26)
  have hc1 := refCheck_any co cc ts q _ (hts.below hb0) (hq.below hb0)
  rw [hchk] at hc1
  obtain ⟨w0, hw0⟩ : ∃ w0, w.alloc (.cells q.cells 26) = w0 := ⟨_, rfl⟩
  have HX : Hid (w0.cell? ⟨w.heap.size, 0, none⟩ = some q.src.val ∧ w0.cell? ⟨w.heap.size, 1, none⟩ = some (.slice q.wad q.wh.length q.wcap) ∧ w0.cell? ⟨w.heap.size, 2, none⟩ = some (.bool q.group) ∧ w0.cell? ⟨w.heap.size, 3, none⟩ = some q.keys.val ∧ w0.cell? ⟨w.heap.size, 4, none⟩ = some q.sums.val ∧ w0.cell? ⟨w.heap.size, 5, none⟩ = some q.sel.val ∧ w0.cell? ⟨w.heap.size, 6, none⟩ = some q.ord.val) := by
    rw [← hw0]; unfold QueryV.cells; refine ⟨?_, ?_, ?_, ?_, ?_, ?_, ?_⟩ <;> simp
  rw [hw0] at hc1 hb0
  have hcd := fun (x : World) (hb : Below w.heap.size w x) => isData_any co d cc dcap ts q db x (hts.below hb) (IntsAt.below hb hq.src) (hdb.below hb) p3 hf.1
  have hd0 : dataB ts q.src.xs db = false := by simpa using hdat
  rw [hd0] at hcd
  have HCD : Hid _ := hcd
  have HB0 : Hid _ := hb0
  have HW0 : Hid _ := hw0
  clear hcd hb0 hw0 hts hq hdb hchk hdat p1 p2 p3 p4 p5 p6 hf hd0
  obtain ⟨⟨sad, scap, sxs⟩, wad, wcap, wh, group, keys, sums, ⟨lad, lcap, lxs⟩, ⟨oad, ocap, oxs⟩⟩ := q
  unfold QueryV.cells IntsV.val at *
  simp only at *
  obtain ⟨c0, c1, c2, c3, c4, c5, c6⟩ := HX.out
  go_enter Tryz.func8, Tryz.ntmps8
  go_wp2_with fail
  rw [HW0.out]
  refine hc1.mono ?_
  rintro e w1 ⟨rfl, hb1⟩
  have hbw1 : Below w.heap.size w w1 := HB0.out.trans (hb1.mono HB0.out.size)
  have d0 := cell_below hb1 c0
  have d1 := cell_below hb1 c1
  have d2 := cell_below hb1 c2
  have d3 := cell_below hb1 c3
  have d4 := cell_below hb1 c4
  have d5 := cell_below hb1 c5
  have d6 := cell_below hb1 c6
  have hcd := HCD.out w1 hbw1
  clear hc1 c0 c1 c2 c3 c4 c5 c6
  go_wp2_with fail
  refine Calls.mono hcd ?_
  rintro e w2 ⟨rfl, hb2⟩
  have hbw2 : Below w.heap.size w w2 := hbw1.trans (hb2.mono hbw1.size)
  clear hcd d0 d1 d2 d3 d4 d5 d6
  go_wp2
  go_ret2
  exact ⟨rfl, hbw2⟩

end Go.Proofs.YtlpbelhfpoilpaaGreat

