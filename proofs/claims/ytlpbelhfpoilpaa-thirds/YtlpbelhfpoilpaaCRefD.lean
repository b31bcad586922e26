import Derived.Test.YtlpbelhfpoilpaaCBaseBase2Base3Base4
import Derived.Test.YtlpbelhfpoilpaaCCatWidthRefA
set_option linter.all false
namespace Go.Proofs.Ytlpbelhfpoilpaa
open Go.RowKit Go.Scout

set_option maxRecDepth 100000 in
set_option maxHeartbeats 8000000 in
theorem ref_main (ao : Option Addr) (cap : Nat) (ts : List TableD) (q : QueryV) (w : World) (hx : TablesAt w ao ts) (hq : q.At w) (hc : catB ts = true)
    (hf : ¬ (5 < q.src.xs.length ∨ 8 < q.wh.length ∨ 8 < q.sel.xs.length ∨ 4 < q.keys.xs.length ∨ 4 < q.sums.xs.length ∨ 4 < q.ord.xs.length)) (hw : wideB q.wh q.wh.length = false) :
    Calls Try.prog 8 #[.slice ao ts.length cap, .agg q.cells] w fun e w' => e = .returned (.int .i64 (q.check ts)) ∧ Below w.heap.size w w' := by
  have hfull : fullB q.src.xs q.whs q.keys.xs q.sums.xs q.sel.xs q.ord.xs = false := fullB_no (by simpa [QueryV.whs] using hf) (by rw [wideB_all]; exact hw)
  have HBAD := @QueryV.check_bad q ts hc hfull
  have HOK := @QueryV.check_ok q ts hc hfull
  have HCB := @clausesB_bad q (widthN ts q.src.xs)
  have HCG := @clausesB_good q (widthN ts q.src.xs)
  have hx1 := fun o => hx.below (below_alloc w o)
  have hwm := @wideB_mono q.wh
  generalize hR : q.check ts = R at *
  generalize hqv : q.cells = C at *
  have hcv : C = q.cells := hqv.symm
  clear hqv
  obtain ⟨src, wad, wcap, wh, group, keys, sums, sel, ord⟩ := q
  have hcv' := hcv
  unfold QueryV.cells IntsV.val at hcv'
  subst hcv'
  simp only at hf hw HBAD HOK HCB HCG hwm
  have hsrc : IntsAt w src.ad src.xs := hq.src
  have hkeys : IntsAt w keys.ad keys.xs := hq.keys
  have hsums : IntsAt w sums.ad sums.xs := hq.sums
  have hsel : IntsAt w sel.ad sel.xs := hq.sel
  have hord : IntsAt w ord.ad ord.xs := hq.ord
  have hwh : ClausesAt w wad wh := hq.wh
  clear hq
  have h1 : ¬ 5 < src.xs.length := by omega
  have h2 : ¬ 8 < wh.length := by omega
  have h3 : ¬ 8 < sel.xs.length := by omega
  have h4 : ¬ 4 < keys.xs.length := by omega
  have h5 : ¬ 4 < sums.xs.length := by omega
  have h6 : ¬ 4 < ord.xs.length := by omega
  have HW : Hid (∀ k, k < wh.length → (wh.getD k lz).cs.length ≤ 3) := fun k hk => hwm hk hw
  have HBD : Hid _ := HBAD
  have HOK' : Hid _ := HOK
  have HCB' : Hid (∀ {k : Nat}, k < wh.length → clauseB (wh.getD k lz).cs (widthN ts src.xs) = false → _) := HCB
  have HCG' : Hid _ := HCG
  have HCV : Hid _ := hcv
  clear hf hw hwm HBAD HOK HCB HCG hcv hfull hR
  go_enter Try.func8, Try.ntmps8
  go_wp2_with (go_at_call 23; refine (isCatalog_any _ _ _ _ (hx1 _)).mono ?_; rw [hc]; rintro e w' ⟨rfl, hb⟩; have hcell := bcell hb; simp at hcell)
  go_loop [6, 7] (fun f i => ∃ k : Nat, k ≤ wh.length ∧ i = .int .i64 k ∧ f = .bool false) (fun _ i => wh.length - (intOf i).toNat)
  case atStart => exact ⟨0, Nat.zero_le _, rfl, val_boolI (by simp; omega)⟩
  case round =>
    obtain ⟨k, hk, rfl, rfl⟩ := hrel
    by_cases hlt : k < wh.length
    · have hw3 := HW.out k hlt
      obtain ⟨b, off, rfl, hcl⟩ := hwh.2.1.get hlt
      have hck := cell_below (Below.step (below_alloc _ _) hb) (hcl k hlt)
      unfold ClauseV.val at hck
      generalize (wh.getD k lz).ad = ad at *
      generalize (wh.getD k lz).cap = cp at *
      generalize (wh.getD k lz).cs.length = cl at *
      have h3c : ¬ 3 < cl := by omega
      clear hcl hw3 hsrc hkeys hsums hsel hord hwh
      go_wp2
      go_round
      case rel => exact ⟨k + 1, by omega, by go_num, val_boolI (by simp; omega)⟩
      case measure => simp [intOf]; omega
    · have hz : w.heap.size < w'.heap.size := by have := hb.size; simp at this; omega
      have hb0 := Below.step (below_alloc _ _) hb
      by_cases ha : allB src.xs ts.length = true
      · go_wp2_with fail
        have hC := all_any src.ad src.cap src.xs ts.length w' (hsrc.below hb0)
        rw [ha] at hC
        refine hC.mono ?_
        clear hC
        rintro e w2 ⟨rfl, rfl⟩
        by_cases h0 : src.xs.length = 0
        · have HF : Hid ((3 : Int) = R) := HBD.out (fun h => by have := h.2.1; omega)
          go_wp2
          go_ret
          exact ⟨ret_int HF.out, hb0⟩
        · have h0' : ((src.xs.length : Int) == 0) = false := by simpa using h0
          have hn := widthN_bd hc ha _ (Nat.le_refl src.xs.length)
          rw [List.take_length] at hn
          have hn0 : 0 ≤ widthN ts src.xs := hn.1
          have hn1 : widthN ts src.xs ≤ 1000 := by omega
          have hC := width_any ao cap ts ⟨src, wad, wcap, wh, group, keys, sums, sel, ord⟩ w2 (hx.below hb0) hc (hsrc.below hb0) (by simp only; omega) ha
          unfold QueryV.cells IntsV.val at hC
          simp only at hC
          generalize hN : widthN ts src.xs = N at *
          clear hn hN
          go_wp2_with fail
          refine hC.mono ?_
          clear hC
          rintro e w3 ⟨rfl, hb3⟩
          have hsz : w.heap.size + 1 ≤ w2.heap.size := hz
          have hb03 := Below.step hb0 hb3
          have f0 : w3.cell? ⟨w.heap.size, 0, none⟩ = some (.slice src.ad src.xs.length src.cap) := cell_below hb3 (by rw [hcell _ _ (by omega)]; simp)
          have f1 : w3.cell? ⟨w.heap.size, 1, none⟩ = some (.slice wad wh.length wcap) := cell_below hb3 (by rw [hcell _ _ (by omega)]; simp)
          have f2 : w3.cell? ⟨w.heap.size, 2, none⟩ = some (.bool group) := cell_below hb3 (by rw [hcell _ _ (by omega)]; simp)
          have f3 : w3.cell? ⟨w.heap.size, 3, none⟩ = some (.slice keys.ad keys.xs.length keys.cap) := cell_below hb3 (by rw [hcell _ _ (by omega)]; simp)
          have f4 : w3.cell? ⟨w.heap.size, 4, none⟩ = some (.slice sums.ad sums.xs.length sums.cap) := cell_below hb3 (by rw [hcell _ _ (by omega)]; simp)
          have f5 : w3.cell? ⟨w.heap.size, 5, none⟩ = some (.slice sel.ad sel.xs.length sel.cap) := cell_below hb3 (by rw [hcell _ _ (by omega)]; simp)
          have f6 : w3.cell? ⟨w.heap.size, 6, none⟩ = some (.slice ord.ad ord.xs.length ord.cap) := cell_below hb3 (by rw [hcell _ _ (by omega)]; simp)
          clear hcell hb hx1 hx hsrc hz
          go_wp2_with fail
          go_loopw [10] (fun i wr => ∃ k : Nat, k ≤ wh.length ∧ i = .int .i64 k ∧ Hid (∀ j, j < k → clauseB (wh.getD j lz).cs N = true) ∧ Below w3.heap.size w3 wr) (fun i _ => wh.length - (intOf i).toNat)
          case atStart => exact ⟨0, Nat.zero_le _, rfl, fun j hj => absurd hj (by omega), Below.refl _ _⟩
          case round =>
            obtain ⟨k, hk, rfl, HP, hbr⟩ := hrel
            have g1 := cell_below hbr f1
            by_cases hlt : k < wh.length
            · obtain ⟨b, off, rfl, hcl⟩ := hwh.2.1.get hlt
              have hck := cell_below hb03 (hcl k hlt)
              have hcd := (hwh.2.2 k hlt).below hb03
              have HBc : Hid (clauseB (wh.getD k lz).cs N = false → (3 : Int) = R) := fun hcc => HBD.out (fun h => by have := h.2.2.1; rw [HCB'.out hlt hcc] at this; cases this)
              generalize hge : wh.getD k lz = cl at *
              have HGE : Hid (wh.getD k lz = cl) := hge
              clear hge hcl
              obtain ⟨ad, cp, cs⟩ := cl
              unfold ClauseV.val at hck
              simp only at hck hcd
              have hcl2 := hcd.1
              have gk := cell_below hbr hck
              go_wp2
              go_loopw [11] (fun i wr2 => ∃ m : Nat, m ≤ cs.length ∧ i = .int .i64 m ∧ Hid (∀ j, j < m → condB (cs.getD j cz) N = true) ∧ Below w3.heap.size w3 wr2) (fun i _ => cs.length - (intOf i).toNat)
              case atStart => exact ⟨0, Nat.zero_le _, rfl, fun j hj => absurd hj (by omega), hbr⟩
              case round =>
                obtain ⟨m, hm, rfl, HM, hbr2⟩ := hrel
                clear g1 gk
                have g1 := cell_below hbr2 f1
                have gk := cell_below hbr2 hck
                by_cases hml : m < cs.length
                · obtain ⟨b2, off2, rfl, c0, c1, c2, c3, c4⟩ := hcd.2 m hml
                  have d0 := cell_below hbr2 c0
                  have d1 := cell_below hbr2 c1
                  have d2 := cell_below hbr2 c2
                  have d3 := cell_below hbr2 c3
                  have d4 := cell_below hbr2 c4
                  clear c0 c1 c2 c3 c4
                  have hC := isCond_any (cs.getD m cz) N wr hn0 hn1
                  unfold CondD.val at hC
                  generalize hgc : cs.getD m cz = cc at *
                  have HGC : Hid (cs.getD m cz = cc) := hgc
                  clear hgc
                  cases hcb : condB cc N
                  · rw [hcb] at hC
                    have HF : Hid ((3 : Int) = R) := HBc.out (clauseB_bad hml (by rw [HGC.out]; exact hcb))
                    go_wp2_with fail
                    refine hC.mono ?_
                    clear hC
                    rintro e w4 ⟨rfl, hb4⟩
                    go_wp2
                    go_ret
                    exact ⟨ret_int HF.out, Below.step hb03 (Below.step hbr2 hb4)⟩
                  · rw [hcb] at hC
                    have HCB2 : Hid (condB cc N = true) := hcb
                    clear hcb
                    go_wp2_with fail
                    refine hC.mono ?_
                    clear hC
                    rintro e w4 ⟨rfl, hb4⟩
                    go_wp2
                    go_roundw
                    case rel =>
                      refine ⟨m + 1, by omega, by go_num, fun j hj => ?_, Below.step hbr2 hb4⟩
                      by_cases hjm : j = m
                      · subst hjm; rw [HGC.out]; exact HCB2.out
                      · exact HM.out j (by omega)
                    case measure => simp [intOf]; omega
                · by_cases hc0 : cs.length = 0
                  · have HF : Hid ((3 : Int) = R) := HBc.out (clauseB_none (by omega))
                    go_wp2
                    go_ret
                    exact ⟨ret_int HF.out, Below.step hb03 hbr2⟩
                  · have hc0' : ((cs.length : Int) == 0) = false := by simpa using hc0
                    have HG : Hid (clauseB cs N = true) := clauseB_good (by omega) (fun j hj => HM.out j (by omega))
                    clear hc0
                    go_wp2
                    go_roundw
                    case rel =>
                      refine ⟨k + 1, by omega, by go_num, fun j hj => ?_, hbr2⟩
                      by_cases hjk : j = k
                      · subst hjk; rw [HGE.out]; exact HG.out
                      · exact HP.out j (by omega)
                    case measure => simp [intOf]; omega
            · have HCL : Hid (clausesB (QueryV.whs ⟨src, wad, wcap, wh, group, keys, sums, sel, ord⟩) N = true) := HCG'.out (fun j hj => HP.out j (by omega))
              have g2 := cell_below hbr f2
              have g3 := cell_below hbr f3
              have g4 := cell_below hbr f4
              have g5 := cell_below hbr f5
              have g6 := cell_below hbr f6
              have hbw := Below.step hb03 hbr
              have g0 := cell_below hbr f0
              clear hwh f0 f1 f2 f3 f4 f5 f6 HP HCG' HCB' hbr hb03 hb3 hb0
              go_wp2_with fail
              refine (all_any sel.ad sel.cap sel.xs N wr (hsel.below hbw)).mono ?_
              rintro e wa ⟨rfl, rfl⟩
              go_wp2_with fail
              refine (all_any keys.ad keys.cap keys.xs N wa (hkeys.below hbw)).mono ?_
              rintro e wb ⟨rfl, rfl⟩
              go_wp2_with fail
              refine (all_any sums.ad sums.cap sums.xs N wb (hsums.below hbw)).mono ?_
              rintro e wc ⟨rfl, rfl⟩
              go_wp2_with fail
              refine wp_region_below (by kernel_rfl) (by kernel_rfl) ?_
              refine BigFrame.wpQuiet_want rfl (fun K hK => ⟨.pointer (some ⟨w.heap.size, 6, none⟩), fun x hx => ?_, hK _ ?_⟩)
              · clear hK K; go_simp
              clear hK K
              refine BigFrame.wpQuiet_want rfl (fun K hK => ⟨.slice ord.ad ord.xs.length ord.cap, fun x hx => ?_, hK _ ?_⟩)
              · have e6 := cell_below hx g6
                clear hK K; go_simp
              clear hK K
              refine BigFrame.wpQuiet_want rfl (fun K hK => ⟨.agg #[.slice src.ad src.xs.length src.cap, .slice wad wh.length wcap, .bool group, .slice keys.ad keys.xs.length keys.cap, .slice sums.ad sums.xs.length sums.cap, .slice sel.ad sel.xs.length sel.cap, .slice ord.ad ord.xs.length ord.cap], fun x hx => ?_, hK _ ?_⟩)
              · have e0 := cell_below hx g0
                have e1 := cell_below hx g1
                have e2 := cell_below hx g2
                have e3 := cell_below hx g3
                have e4 := cell_below hx g4
                have e5 := cell_below hx g5
                have e6 := cell_below hx g6
                clear hK K; go_simp
              clear hK K
              refine BigFrame.wpQuiet_want rfl (fun K hK => ⟨.int .i64 (outN group keys.xs sums.xs sel.xs), fun x hx => ?_, hK _ ?_⟩)
              · have hC := Calls.within hx (out_any ⟨src, wad, wcap, wh, group, keys, sums, sel, ord⟩ x (by simp only; omega) (by simp only; omega))
                unfold QueryV.cells IntsV.val at hC
                clear hK K; go_simp
              clear hK K
              refine BigFrame.wpQuiet_want rfl (fun K hK => ⟨.bool (allB ord.xs (outN group keys.xs sums.xs sel.xs)), fun x hx => ?_, hK _ ?_⟩)
              · have hC := Calls.within_same hx (all_any ord.ad ord.cap ord.xs (outN group keys.xs sums.xs sel.xs) x ((hord.below hbw).below hx))
                clear hK K; go_simp
              clear hK K
              refine BigFrame.wpQuiet_want rfl (fun K hK => ⟨.bool (allB ord.xs (outN group keys.xs sums.xs sel.xs)), fun x hx => ?_, hK _ ?_⟩)
              · clear hK K; go_simp
              clear hK K
              refine wpQuiet_nil ?_
              intro wd hbd
              have hbw2 := Below.step hbw hbd
              have k2 := cell_below hbd g2
              have k3 := cell_below hbd g3
              have k4 := cell_below hbd g4
              have k5 := cell_below hbd g5
              have k6 := cell_below hbd g6
              clear g0 g1 g2 g3 g4 g5 g6 hsums hsel hbd hbw
              go_wp2_with fail
              refine (Calls.drawn (apart_any keys.ad keys.cap keys.xs wd (hkeys.below hbw2))).mono ?_
              rintro e we ⟨rfl, hbe⟩
              have hbw3 := Below.step hbw2 hbe
              have g2 := cell_below hbe k2
              have g3 := cell_below hbe k3
              have g4 := cell_below hbe k4
              have g5 := cell_below hbe k5
              have g6 := cell_below hbe k6
              clear k2 k3 k4 k5 k6 hbe hbw2 hkeys
              go_wp2_with fail
              refine (Calls.drawn (apart_any ord.ad ord.cap ord.xs we (hord.below hbw3))).mono ?_
              rintro e wf ⟨rfl, hbe⟩
              have hbw4 := Below.step hbw3 hbe
              have k2 := cell_below hbe g2
              have k3 := cell_below hbe g3
              have k4 := cell_below hbe g4
              have k5 := cell_below hbe g5
              clear g2 g3 g4 g5 g6 hbe hbw3 hord
              have HR3 : Hid (restB N group keys.xs sums.xs sel.xs ord.xs = false → (3 : Int) = R) := fun hr => HBD.out (fun h => by have := h.2.2.2; rw [hr] at this; cases this)
              have HR0 : Hid (restB N group keys.xs sums.xs sel.xs ord.xs = true → (0 : Int) = R) := fun hr => HOK'.out ⟨ha, by omega, HCL.out, hr⟩
              go_wp2
              all_goals
                go_ret
                first
                | exact ⟨ret_int (HR3.out (rest_sel ‹_›)), hbw4⟩
                | exact ⟨ret_int (HR3.out (rest_keys ‹_›)), hbw4⟩
                | exact ⟨ret_int (HR3.out (rest_sums ‹_›)), hbw4⟩
                | exact ⟨ret_int (HR3.out (rest_ord ‹_›)), hbw4⟩
                | exact ⟨ret_int (HR3.out (rest_ak ‹_›)), hbw4⟩
                | exact ⟨ret_int (HR3.out (rest_ao ‹_›)), hbw4⟩
                | exact ⟨ret_int (HR3.out (rest_grp ‹_›)), hbw4⟩
                | exact ⟨ret_int (HR3.out (rest_ks ‹_› ‹_›)), hbw4⟩
                | exact ⟨ret_int (HR0.out (rest_ok1 ‹_› ‹_› ‹_› ‹_› ‹_› ‹_› ‹_› ‹_›)), hbw4⟩
                | exact ⟨ret_int (HR0.out (rest_ok2 ‹_› ‹_› ‹_› ‹_› ‹_› ‹_› ‹_› ‹_›)), hbw4⟩
      · have ha' : allB src.xs ts.length = false := by simpa using ha
        have HF : Hid ((3 : Int) = R) := HBD.out (fun h => ha h.1)
        go_wp2_with fail
        have hC := all_any src.ad src.cap src.xs ts.length w' (hsrc.below hb0)
        rw [ha'] at hC
        refine hC.mono ?_
        clear hC
        rintro e w2 ⟨rfl, rfl⟩
        go_wp2
        go_ret
        exact ⟨ret_int HF.out, hb0⟩

end Go.Proofs.Ytlpbelhfpoilpaa

