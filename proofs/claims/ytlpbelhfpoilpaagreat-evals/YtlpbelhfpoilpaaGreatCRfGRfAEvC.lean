import Derived.Test.YtlpbelhfpoilpaaGreatProg
import Derived.RegionTactic
import Derived.OwnWalk
import Derived.Test.YtlpbelhfpoilpaaGreatCPure1MkATruATruB
import Derived.Test.YtlpbelhfpoilpaaGreatCRfEEvAEvB
import Derived.Test.YtlpbelhfpoilpaaGreatCRfFSoPSoA
import Derived.Test.YtlpbelhfpoilpaaGreatCSoISoJSoK
set_option linter.all false
namespace Go.Scout
open Go.RowKit

theorem ahead_cmp {a b : Int} (h : a ≠ b) : aheadB a b = decide (cmpV a b < 0) := by
  unfold aheadB cmpV
  rw [if_neg h]
  by_cases ha : a = 1073741824
  · have hb : b ≠ 1073741824 := fun e => h (by rw [ha, e])
    rw [if_pos (.inl ha), if_pos ha]
    simp [ha, hb]
  · rw [if_neg ha]
    by_cases hb : b = 1073741824
    · rw [if_pos (.inr hb), if_pos hb]
      simp [ha]
    · rw [if_neg (by omega), if_neg hb]
      by_cases hl : a < b
      · rw [if_pos hl]; simp [hl]
      · rw [if_neg hl]; simp [hl]

theorem before_lt (xs ys : List Int) : ∀ ps, beforeB xs ys ps = ltL ps xs ys
  | [] => rfl
  | p :: ps => by
    unfold beforeB ltL cmpL
    by_cases h : xs.getD p.toNat 0 = ys.getD p.toNat 0
    · rw [if_pos h, if_pos (cmpV_zero.2 h), before_lt xs ys ps]
      rfl
    · rw [if_neg h, if_neg (fun e => h (cmpV_zero.1 e)), ahead_cmp h]

theorem own_setCell {w : World} {base g cap n j : Nat} {e : TypeId} {xs : List Value} {u : Value} (h : w.ownsRow base e 1 (.slice (some ⟨g, 0, none⟩) n cap) n xs) (_hj : j < n) : (w.setCell ⟨g, j, none⟩ u).ownsRow base e 1 (.slice (some ⟨g, 0, none⟩) n cap) n (xs.set j u) := by
  refine ⟨by rw [List.length_set]; exact h.1, ?_⟩
  rcases h.2 with ⟨h1, _⟩ | ⟨g', cap', cur, h1, h2, h3, h4, h5, h6, h7⟩
  · cases h1
  · cases h1
    have hG : GB w g e cur := h3
    have hs := hG.set j u
    refine .inr ⟨g, cap, _, rfl, h2, hs, h4, h5, by rw [Array.size_setIfInBounds]; exact h6, ?_⟩
    rw [← h7, Array.toList_setIfInBounds, List.take_set]

theorem Listed.set {tI tE : TypeId} (hne : tI ≠ tE) {base g cap n j : Nat} {L : List IntsV} {W : World} {x : IntsV} (h : Listed tI tE base (.slice (some ⟨g, 0, none⟩) n cap) L W) (hn : n = L.length) (hj : j < n) (hx : (ownEl tE).At x W) : Listed tI tE base (.slice (some ⟨g, 0, none⟩) n cap) (L.set j x) (W.setCell ⟨g, j, none⟩ x.val) := by
  subst hn
  have hk : Kept (fun b => (Value.slice (some ⟨g, 0, none⟩) L.length cap).ownBlock ≠ some b) W (W.setCell ⟨g, j, none⟩ x.val) := Kept.setCell _ _ _ (fun h => h rfl)
  refine ⟨?_, fun y hy => ?_⟩
  · rw [List.length_set, List.map_set]
    exact own_setCell h.own hj
  · rcases List.mem_or_eq_of_mem_set hy with h1 | h1
    · exact ownEl_other hne h.own hk (h.at' y h1)
    · rw [h1]; exact ownEl_other hne h.own hk hx

theorem Listed.frozen {tI tE : TypeId} {base g cap n : Nat} {L : List IntsV} {W : World} (h : Listed tI tE base (.slice (some ⟨g, 0, none⟩) n cap) L W) (j : Nat) : W.frozen? ⟨g, j, none⟩ = false := by
  obtain ⟨cur, hc⟩ := own_cells h.own (b := g) rfl
  have hG : GB W g tI cur := hc
  exact hG.frozen j
theorem Listed.cell {tI tE : TypeId} {base g cap n : Nat} {L : List IntsV} {W : World} (h : Listed tI tE base (.slice (some ⟨g, 0, none⟩) n cap) L W) {j : Nat} (hj : j < L.length) : W.cell? ⟨g, j, none⟩ = some (L.getD j iz).val := by
  rcases own_news h.own with ⟨h1, _⟩ | ⟨g', cap', h1, _, _, h4⟩
  · cases h1
  · cases h1
    have := h4 j (L.getD j iz).val (by rw [List.getElem?_map]; simp [List.getD, hj])
    rw [addr_add, Nat.zero_add] at this
    exact this

theorem iz_own (e : TypeId) (W : World) : (ownEl e).At iz W := ⟨⟨⟨by simp [iz], fun i hi => absurd hi (by simp [iz])⟩, (fun a ha => (by cases ha)), fun _ => rfl⟩, World.ownsRow_nil _ _ _ _⟩

theorem shift_step (zs : List IntsV) (c : IntsV) {k : Nat} (hk : k < zs.length) : (zs.take (k + 1) ++ c :: zs.drop (k + 1)).set (k + 1) (zs.getD k iz) = zs.take k ++ zs.getD k iz :: zs.drop k := by
  have hl : (zs.take (k + 1)).length = k + 1 := by rw [List.length_take]; omega
  rw [List.set_append_right _ _ (by omega), hl, Nat.sub_self, List.set_cons_zero, ← take_snoc zs iz hk]
  have e : zs.getD k iz = zs[k] := by simp [List.getD, hk]
  have e2 : zs.drop k = zs[k] :: zs.drop (k + 1) := List.drop_eq_getElem_cons hk
  rw [e2, e, List.append_assoc]
  rfl
theorem shift_get (zs : List IntsV) (c : IntsV) {k : Nat} (hk : k < zs.length) : (zs.take (k + 1) ++ c :: zs.drop (k + 1)).getD k iz = zs.getD k iz := by
  have hl : (zs.take (k + 1)).length = k + 1 := by rw [List.length_take]; omega
  simp only [List.getD]
  rw [List.getElem?_append_left (by omega), List.getElem?_take_of_lt (by omega)]
theorem shift_len (zs : List IntsV) (c : IntsV) (k : Nat) (hk : k ≤ zs.length) : (zs.take k ++ c :: zs.drop k).length = zs.length + 1 := by
  simp only [List.length_append, List.length_cons, List.length_take, List.length_drop]
  omega
theorem shift_end (S1 S2 : List IntsV) (c x : IntsV) : ((S1 ++ S2).take S1.length ++ c :: (S1 ++ S2).drop S1.length).set S1.length x = S1 ++ x :: S2 := by
  rw [List.take_left, List.drop_left, List.set_append_right _ _ (Nat.le_refl _), Nat.sub_self, List.set_cons_zero]

end Go.Scout
namespace Go.Proofs.YtlpbelhfpoilpaaGreat
open Go.RowKit Go.Scout

set_option maxRecDepth 20000 in
set_option maxHeartbeats 16000000 in
theorem sortedR_any (ao : Option Addr) (cap : Nat) (rs : List IntsV) (c : IntsV) (w : World) (hr : RowsOwn 3 w ao rs) (hc : c.At w) (hl : rs.length ≤ 100000) (hin : ∀ r ∈ rs, allB c.xs r.xs.length = true) :
    Calls Tryz.prog 27 #[.slice ao rs.length cap, c.val] w fun e w' => ∃ v ys, e = .returned v ∧ ys.map IntsV.xs = sortN c.xs (rs.map IntsV.xs) ∧ Listed 23 3 w.heap.size v ys w' ∧ Below w.heap.size w w' := by
  obtain ⟨cad, ccap, ps⟩ := c
  unfold IntsV.val
  simp only at *
  obtain ⟨lt, hlt0⟩ : ∃ lt : IntsV → IntsV → Bool, lt = fun x y => ltL ps x.xs y.xs := ⟨_, rfl⟩
  have HLT : Hid (∀ x y, lt x y = beforeB x.xs y.xs ps) := fun x y => by rw [hlt0, before_lt]
  have HSO : Hid ((mg lt [] rs).map IntsV.xs = sortN ps (rs.map IntsV.xs)) := show _ = _ by
    rw [hlt0]
    exact mg_map (f := IntsV.xs) (lt' := ltL ps) (fun _ _ => rfl) rs []
  have HR : Hid _ := hr
  have HC : Hid _ := hc
  have HIN : Hid _ := hin
  clear hr hc hin hlt0
  go_enter Tryz.func27, Tryz.ntmps27
  go_wp2
  go_loopw [5, 6] (fun v iv wr => ∃ (i : Nat), i ≤ rs.length ∧ iv = .int .i64 i ∧ Hid (Listed 23 3 w.heap.size v (mg lt [] (rs.take i)) wr) ∧ Below w.heap.size w wr) (fun _ iv _ => rs.length - (intOf iv).toNat)
  case atStart => exact ⟨0, Nat.zero_le _, rfl, Listed.nil _ _ _ _, Below.refl _ _⟩
  case round =>
    obtain ⟨i, hil, rfl, HL, hbr⟩ := hrel
    by_cases hlt : i < rs.length
    · obtain ⟨b, off, rfl, hcs⟩ := CellsAt.get HR.out.1.2.1 hlt
      have HCI : Hid _ := hcs i hlt
      have hgm : rs.getD i iz ∈ rs := getD_memR hlt
      have HXO : Hid _ := HR.out.2 _ hgm
      have HXA : Hid _ := HR.out.1.2.2 i hlt
      have HXI : Hid _ := HIN.out _ hgm
      have hmt : mg lt [] (rs.take (i + 1)) = insR lt (rs.getD i iz) (mg lt [] (rs.take i)) := by rw [← take_snoc rs iz hlt, mg_app, mg_one]
      have hzl : (mg lt [] (rs.take i)).length = i := by rw [mg_length, List.length_take]; simp; omega
      have HZI : Hid (∀ z ∈ mg lt [] (rs.take i), allB ps z.xs.length = true) := fun z hz => by
        rcases mg_mem.1 hz with h | h
        · cases h
        · exact HIN.out z (List.mem_of_mem_take h)
      have HMT : Hid _ := hmt
      clear hcs hgm hmt
      obtain ⟨zs, hzs⟩ : ∃ zs, zs = mg lt [] (rs.take i) := ⟨_, rfl⟩
      rw [← hzs] at HL HZI HMT hzl
      clear hzs
      generalize rs.getD i iz = x at *
      have hb0 := hbr.size
      obtain ⟨ao5, cap5, hv5, hr5⟩ := HL.out.rowsOwn (by omega)
      subst hv5
      rw [hzl]
      have HR5 : Hid _ := hr5
      have HL2 : Hid (Listed 23 3 w.heap.size (.slice ao5 i cap5) zs wr) := by have h := HL.out; rw [hzl] at h; exact h
      have HBK : Hid _ := hbr
      clear hr5 HL
      obtain ⟨wk, hwk⟩ : ∃ wk, wk = wr := ⟨_, rfl⟩
      rw [← hwk] at HR5 HL2 HBK hb0
      go_wp2
      rw [← hwk]
      clear hwk hbr
      obtain ⟨xad, xcap, xs⟩ := x
      unfold IntsV.val at HCI
      simp only at HCI
      go_loopw [7] (fun av wr => ∃ (S1 S2 : List IntsV), av = .int .i64 (S1.length : Nat) ∧ S1.length ≤ i ∧ Hid (zs = S1 ++ S2 ∧ ∀ s ∈ S2, lt ⟨xad, xcap, xs⟩ s = true) ∧ Below wk.heap.size wk wr) (fun av _ => (intOf av).toNat)
      case atStart => exact ⟨zs, [], by rw [hzl], by omega, ⟨by simp, fun s hs => (by cases hs)⟩, Below.refl _ _⟩
      case round =>
        obtain ⟨S1, S2, rfl, hS1, HS, hbr⟩ := hrel
        have hb1 := Below.step HBK.out hbr
        obtain ⟨at0, hat0⟩ : ∃ at0, at0 = S1.length := ⟨_, rfl⟩
        have HAT : Hid (at0 = S1.length ∧ at0 ≤ i) := ⟨hat0, by omega⟩
        rw [← hat0]
        rcases List.eq_nil_or_concat S1 with hs1 | ⟨S3, y, hs1⟩
        · subst hs1
          have HINS : Hid (insR lt ⟨xad, xcap, xs⟩ zs = [] ++ IntsV.mk xad xcap xs :: S2) := show _ = _ by
            rw [HS.out.1]
            exact insR_left (lt := lt) (A1 := []) HS.out.2
          have h00 : at0 = 0 := hat0
          have hng : ¬ ((at0 : Int) > 0) := by omega
          have hng2 : ¬ (0 < at0) := by omega
          have hng3 : decide ((0 : Int) < (at0 : Int)) = false := decide_eq_false (by omega)
          clear hat0 hb1 h00
          go_wp2_with fail
          go_quiet (fail)
          have hbq := below_drewN hbr nq
          have hszq := hbq.size
          have hbw := Below.step HBK.out hbq
          have hLq := HL2.out.below hbq
          have hszw := hbw.size
          obtain ⟨v', w5, hr5, hL5, hk5, -, -⟩ := push_row (wr.drewN nq) w.heap.size (.slice ao5 i cap5) zs hLq (by omega) hszw iz (iz_own _ _) 29
          have hb5 : Below w.heap.size w w5 := hbw.trans (hk5.below hszw (fun b hb e => by have := (ownsRow_lt hLq.own e).1; omega))
          have hll : (zs ++ [iz]).length = i + 1 := by rw [List.length_append, hzl]; rfl
          obtain ⟨g, gcap, rfl, hgb⟩ : ∃ g gcap, v' = .slice (some ⟨g, 0, none⟩) (i + 1) gcap ∧ w.heap.size ≤ g := by
            rcases own_news hL5.own with ⟨_, h2⟩ | ⟨g, gc, h1, h2, _, _⟩
            · have := congrArg List.length h2
              rw [List.length_map] at this
              simp at this
            · exact ⟨g, gc, by rw [h1, hll], h2⟩
          have HL5 : Hid (Listed 23 3 w.heap.size (.slice (some ⟨g, 0, none⟩) (i + 1) gcap) (zs.take i ++ iz :: zs.drop i) w5) := by
            show Listed _ _ _ _ _ _
            have e1 : zs.take i = zs := List.take_of_length_le (by omega)
            have e2 : zs.drop i = [] := List.drop_eq_nil_of_le (by omega)
            rw [e1, e2]
            exact hL5
          have HB5 : Hid _ := hb5
          have HGB : Hid _ := hgb
          simp only [iz, IntsV.val, List.length_nil] at hr5
          clear hLq hbw hL5 hk5 hb5 hszw hszq hll
          go_wp2_with (first | (at_builtin; refine wpList_append_run rfl (.tmp 34) (.tmp 35) 29 rfl (.slice ao5 i cap5) (.slice (some ⟨((wr.drewN nq)).heap.size, 0, none⟩) 1 1) (.slice (some ⟨g, 0, none⟩) (i + 1) gcap) w5 rfl rfl hr5 ?_))
          clear hr5 hbq
          go_wp2
          go_loopw [8] (fun kv wr => ∃ (k : Nat) (cc : IntsV), kv = .int .i64 k ∧ at0 ≤ k ∧ k ≤ i ∧ Hid (Listed 23 3 w.heap.size (.slice (some ⟨g, 0, none⟩) (i + 1) gcap) (zs.take k ++ cc :: zs.drop k) wr) ∧ Below w.heap.size w wr) (fun kv _ => (intOf kv).toNat)
          case atStart => exact ⟨i, iz, by first | rfl | go_num, HAT.out.2, Nat.le_refl _, HL5.out, HB5.out⟩
          case round =>
            clear HL5 HB5
            obtain ⟨k, cc, rfl, hak, hki, HL, hbr⟩ := hrel
            have hslen := shift_len zs cc k (by omega)
            by_cases hkt : at0 < k
            · obtain ⟨kk, rfl⟩ : ∃ kk, k = kk + 1 := ⟨k - 1, by omega⟩
              have hkz : kk < zs.length := by omega
              have hcell := HL.out.cell (j := kk) (by omega)
              rw [shift_get zs cc hkz] at hcell
              have hfz := HL.out.frozen (kk + 1)
              have hold := HL.out.cell (j := kk + 1) (by omega)
              have hmem : zs.getD kk iz ∈ zs.take (kk + 1) ++ cc :: zs.drop (kk + 1) := by rw [← shift_get zs cc hkz]; exact getD_memR (by omega)
              have hset := HL.out.set Tryz.ne_types (j := kk + 1) (by omega) (by omega) (HL.out.at' _ hmem)
              rw [shift_step zs cc hkz] at hset
              have hbs : Below w.heap.size w (wr.setCell ⟨g, kk + 1, none⟩ (zs.getD kk iz).val) := hbr.setCell (p := ⟨g, kk + 1, none⟩) HGB.out _
              have hkw : wrap64 (((kk + 1 : Nat) : Int) - 1) = (kk : Int) := by unfold wrap64; omega
              have hk1 : ((kk + 1 : Nat) : Int) - 1 = (kk : Int) := by omega
              have hk2 : (kk : Int) + 1 - 1 = (kk : Int) := by omega
              generalize hval : (zs.take (kk + 1) ++ cc :: zs.drop (kk + 1)).getD (kk + 1) iz = oldv at *
              generalize zs.getD kk iz = y at *
              obtain ⟨yad, ycap, yxs⟩ := y
              obtain ⟨qad, qcap, qxs⟩ := oldv
              unfold IntsV.val at hcell hold hset hbs
              simp only at hcell hold hset hbs
              have HSET : Hid _ := hset
              have HBS : Hid _ := hbs
              clear hset hbs hmem hval hslen HL hbr
              go_wp2
              go_roundw
              case rel => exact ⟨kk, IntsV.mk yad ycap yxs, by first | rfl | go_num, by omega, by omega, HSET.out, HBS.out⟩
              case measure => simp [intOf]
            · obtain rfl : k = at0 := by omega
              have hck := cell_below hbr HCI.out
              have hfz := HL.out.frozen k
              have hold := HL.out.cell (j := k) (by omega)
              have hxo := (ownEl 3).keep HXO.out hbr.size (fun b hb' _ => hbr.block b hb')
              have hset := HL.out.set Tryz.ne_types (j := k) (by omega) (by omega) hxo
              have e : (zs.take k ++ cc :: zs.drop k).set k (IntsV.mk xad xcap xs) = mg lt [] (rs.take (i + 1)) := by
                rw [HMT.out, HINS.out, HS.out.1, HAT.out.1]
                exact shift_end _ _ _ _
              rw [e] at hset
              have hbs : Below w.heap.size w (wr.setCell ⟨g, k, none⟩ (IntsV.mk xad xcap xs).val) := hbr.setCell (p := ⟨g, k, none⟩) HGB.out _
              generalize (zs.take k ++ cc :: zs.drop k).getD k iz = oldv at *
              obtain ⟨qad, qcap, qxs⟩ := oldv
              unfold IntsV.val at hold hset hbs
              simp only at hold hset hbs
              have HSET : Hid _ := hset
              have HBS : Hid _ := hbs
              clear hset hbs hxo e hslen HL hbr
              go_wp2
              go_roundw
              case rel => exact ⟨i + 1, by omega, by go_num, HSET.out, HBS.out⟩
              case measure => simp [intOf]; omega
        · rw [List.concat_eq_append] at hs1
          subst hs1
          obtain ⟨jp, hjp⟩ : ∃ jp, at0 = jp + 1 := ⟨S3.length, by rw [hat0, List.length_append]; rfl⟩
          have hjl : jp = S3.length := by rw [hjp] at hat0; simpa using hat0
          have hym : zs.getD jp iz = y := by rw [HS.out.1, hjl]; simp [List.getD]
          have hjz : jp < zs.length := by rw [HS.out.1, hjl]; simp
          have hyz : y ∈ zs := by rw [HS.out.1]; simp
          obtain ⟨g5, o5, rfl, hc5⟩ := CellsAt.get HR5.out.1.2.1 hjz
          have hcy := cell_below hbr (hc5 jp hjz)
          rw [hym] at hcy
          have hcx := cell_below hb1 HCI.out
          have hya := IntsAt.below hbr (HR5.out.1.2.2 jp hjz)
          rw [hym] at hya
          have hbf := fun W (hW : Below wr.heap.size wr W) => before_any xad y.ad cad xcap y.cap ccap xs y.xs ps W (IntsAt.below hW (IntsAt.below hb1 HXA.out)) (IntsAt.below hW hya) (IntsAt.below hW (IntsAt.below hb1 HC.out)) HXI.out (HZI.out y hyz)
          have hlb := HLT.out (IntsV.mk xad xcap xs) y
          simp only at hlb
          rw [← hlb] at hbf
          have hwj : wrap64 ((at0 : Int) - 1) = (jp : Int) := by unfold wrap64; omega
          have haj : (at0 : Int) - 1 = (jp : Int) := by omega
          have hgt : ((at0 : Int) > 0) := by omega
          have hgt2 : 0 < at0 := by omega
          have hgt3 : decide ((0 : Int) < (at0 : Int)) = true := decide_eq_true (by omega)
          have hji : jp < i := by omega
          have hbd := fun n => hbf (wr.drewN n) (below_drewN (Below.refl _ _) n)
          have HJL : Hid _ := hjl
          have HJP : Hid _ := hjp
          clear hjp hat0
          cases hlv : lt (IntsV.mk xad xcap xs) y with
          | true =>
            rw [hlv] at hbd
            have HN2 : Hid (zs = S3 ++ (y :: S2) ∧ ∀ s ∈ y :: S2, lt ⟨xad, xcap, xs⟩ s = true) := ⟨by rw [HS.out.1]; simp, fun s hs => by
              rcases List.mem_cons.1 hs with h | h
              · rw [h]; exact hlv
              · exact HS.out.2 s h⟩
            clear hbf hlb hym hyz hya hlv hc5 hjl HS HAT
            obtain ⟨yad, ycap, yxs⟩ := y
            unfold IntsV.val at hcy
            simp only at hcy hbd
            go_wp2_with fail
            go_quiet ((go_at_call 54; exact Calls.quiet_of_same (hbd _)))
            go_wp2
            go_roundw
            case rel => exact ⟨S3, IntsV.mk yad ycap yxs :: S2, by rw [← HJL.out], by have := HJL.out; have := HJP.out; omega, HN2.out, below_drewN hbr _⟩
            case measure => have := HJP.out; simp [intOf]; omega
          | false =>
            rw [hlv] at hbd
            have HINS : Hid (insR lt ⟨xad, xcap, xs⟩ zs = (S3 ++ [y]) ++ IntsV.mk xad xcap xs :: S2) := show _ = _ by
              rw [HS.out.1, insR_left HS.out.2, insR_snoc, if_neg (by rw [hlv]; simp)]
              simp
            clear hbf hlb hym hyz hya hlv hc5 hjl
            obtain ⟨yad, ycap, yxs⟩ := y
            unfold IntsV.val at hcy
            simp only at hcy hbd
            go_wp2_with fail
            go_quiet ((go_at_call 54; exact Calls.quiet_of_same (hbd _)))
            have hbq := below_drewN hbr nq
            clear hcy hcx hbd hwj haj hgt hgt2 hgt3 hji
            have hszq := hbq.size
            have hbw := Below.step HBK.out hbq
            have hLq := HL2.out.below hbq
            have hszw := hbw.size
            obtain ⟨v', w5, hr5, hL5, hk5, -, -⟩ := push_row (wr.drewN nq) w.heap.size (.slice (some ⟨g5, o5, none⟩) i cap5) zs hLq (by omega) hszw iz (iz_own _ _) 29
            have hb5 : Below w.heap.size w w5 := hbw.trans (hk5.below hszw (fun b hb e => by have := (ownsRow_lt hLq.own e).1; omega))
            have hll : (zs ++ [iz]).length = i + 1 := by rw [List.length_append, hzl]; rfl
            obtain ⟨g, gcap, rfl, hgb⟩ : ∃ g gcap, v' = .slice (some ⟨g, 0, none⟩) (i + 1) gcap ∧ w.heap.size ≤ g := by
              rcases own_news hL5.own with ⟨_, h2⟩ | ⟨g, gc, h1, h2, _, _⟩
              · have := congrArg List.length h2
                rw [List.length_map] at this
                simp at this
              · exact ⟨g, gc, by rw [h1, hll], h2⟩
            have HL5 : Hid (Listed 23 3 w.heap.size (.slice (some ⟨g, 0, none⟩) (i + 1) gcap) (zs.take i ++ iz :: zs.drop i) w5) := by
              show Listed _ _ _ _ _ _
              have e1 : zs.take i = zs := List.take_of_length_le (by omega)
              have e2 : zs.drop i = [] := List.drop_eq_nil_of_le (by omega)
              rw [e1, e2]
              exact hL5
            have HB5 : Hid _ := hb5
            have HGB : Hid _ := hgb
            simp only [iz, IntsV.val, List.length_nil] at hr5
            clear hLq hbw hL5 hk5 hb5 hszw hszq hll
            go_wp2_with (first | (at_builtin; refine wpList_append_run rfl (.tmp 34) (.tmp 35) 29 rfl (.slice (some ⟨g5, o5, none⟩) i cap5) (.slice (some ⟨((wr.drewN nq)).heap.size, 0, none⟩) 1 1) (.slice (some ⟨g, 0, none⟩) (i + 1) gcap) w5 rfl rfl hr5 ?_))
            clear hr5 hbq
            go_wp2
            go_loopw [8] (fun kv wr => ∃ (k : Nat) (cc : IntsV), kv = .int .i64 k ∧ at0 ≤ k ∧ k ≤ i ∧ Hid (Listed 23 3 w.heap.size (.slice (some ⟨g, 0, none⟩) (i + 1) gcap) (zs.take k ++ cc :: zs.drop k) wr) ∧ Below w.heap.size w wr) (fun kv _ => (intOf kv).toNat)
            case atStart => exact ⟨i, iz, by first | rfl | go_num, HAT.out.2, Nat.le_refl _, HL5.out, HB5.out⟩
            case round =>
              clear HL5 HB5
              obtain ⟨k, cc, rfl, hak, hki, HL, hbr⟩ := hrel
              have hslen := shift_len zs cc k (by omega)
              by_cases hkt : at0 < k
              · obtain ⟨kk, rfl⟩ : ∃ kk, k = kk + 1 := ⟨k - 1, by omega⟩
                have hkz : kk < zs.length := by omega
                have hcell := HL.out.cell (j := kk) (by omega)
                rw [shift_get zs cc hkz] at hcell
                have hfz := HL.out.frozen (kk + 1)
                have hold := HL.out.cell (j := kk + 1) (by omega)
                have hmem : zs.getD kk iz ∈ zs.take (kk + 1) ++ cc :: zs.drop (kk + 1) := by rw [← shift_get zs cc hkz]; exact getD_memR (by omega)
                have hset := HL.out.set Tryz.ne_types (j := kk + 1) (by omega) (by omega) (HL.out.at' _ hmem)
                rw [shift_step zs cc hkz] at hset
                have hbs : Below w.heap.size w (wr.setCell ⟨g, kk + 1, none⟩ (zs.getD kk iz).val) := hbr.setCell (p := ⟨g, kk + 1, none⟩) HGB.out _
                have hkw : wrap64 (((kk + 1 : Nat) : Int) - 1) = (kk : Int) := by unfold wrap64; omega
                have hk1 : ((kk + 1 : Nat) : Int) - 1 = (kk : Int) := by omega
                have hk2 : (kk : Int) + 1 - 1 = (kk : Int) := by omega
                generalize hval : (zs.take (kk + 1) ++ cc :: zs.drop (kk + 1)).getD (kk + 1) iz = oldv at *
                generalize zs.getD kk iz = y at *
                obtain ⟨yad, ycap, yxs⟩ := y
                obtain ⟨qad, qcap, qxs⟩ := oldv
                unfold IntsV.val at hcell hold hset hbs
                simp only at hcell hold hset hbs
                have HSET : Hid _ := hset
                have HBS : Hid _ := hbs
                clear hset hbs hmem hval hslen HL hbr
                go_wp2
                go_roundw
                case rel => exact ⟨kk, IntsV.mk yad ycap yxs, by first | rfl | go_num, by omega, by omega, HSET.out, HBS.out⟩
                case measure => simp [intOf]
              · obtain rfl : k = at0 := by omega
                have hck := cell_below hbr HCI.out
                have hfz := HL.out.frozen k
                have hold := HL.out.cell (j := k) (by omega)
                have hxo := (ownEl 3).keep HXO.out hbr.size (fun b hb' _ => hbr.block b hb')
                have hset := HL.out.set Tryz.ne_types (j := k) (by omega) (by omega) hxo
                have e : (zs.take k ++ cc :: zs.drop k).set k (IntsV.mk xad xcap xs) = mg lt [] (rs.take (i + 1)) := by
                  rw [HMT.out, HINS.out, HS.out.1, HAT.out.1]
                  exact shift_end _ _ _ _
                rw [e] at hset
                have hbs : Below w.heap.size w (wr.setCell ⟨g, k, none⟩ (IntsV.mk xad xcap xs).val) := hbr.setCell (p := ⟨g, k, none⟩) HGB.out _
                generalize (zs.take k ++ cc :: zs.drop k).getD k iz = oldv at *
                obtain ⟨qad, qcap, qxs⟩ := oldv
                unfold IntsV.val at hold hset hbs
                simp only at hold hset hbs
                have HSET : Hid _ := hset
                have HBS : Hid _ := hbs
                clear hset hbs hxo e hslen HL hbr
                go_wp2
                go_roundw
                case rel => exact ⟨i + 1, by omega, by go_num, HSET.out, HBS.out⟩
                case measure => simp [intOf]; omega
    · have hii : rs.take i = rs := List.take_of_length_le (by omega)
      rw [hii] at HL
      obtain ⟨oa, om, oc, rfl⟩ := ownsRow_slice HL.out.own
      clear hii
      go_wp2
      go_ret
      exact ⟨_, _, rfl, HSO.out, HL.out, hbr⟩

end Go.Proofs.YtlpbelhfpoilpaaGreat

namespace Go.Proofs.YtlpbelhfpoilpaaGreat
open Go.RowKit Go.Scout

set_option maxRecDepth 20000 in
set_option maxHeartbeats 8000000 in
theorem isData_any (co d : Option Addr) (cc dcap : Nat) (ts : List TableD) (q : QueryV) (db : List RowsV) (w : World) (hts : TablesAt w co ts) (hs : q.src.At w) (hdb : DbAt w d db) (ha : allB q.src.xs ts.length = true) (h5 : q.src.xs.length ≤ 5) :
    Calls Tryz.prog 21 #[.slice co ts.length cc, .agg q.cells, .slice d db.length dcap] w fun e w' => e = .returned (.bool (dataB ts q.src.xs db)) ∧ Below w.heap.size w w' := by
  have hl1 := hts.1
  have hl2 := hdb.1
  have hb := below_alloc w (.cells q.cells 26)
  obtain ⟨w1, hw1⟩ : ∃ w1, w.alloc (.cells q.cells 26) = w1 := ⟨_, rfl⟩
  have x0 : w1.cell? ⟨w.heap.size, 0, none⟩ = some q.src.val := by rw [← hw1]; unfold QueryV.cells; simp
  have HW1 : Hid _ := hw1
  rw [hw1] at hb
  have HT : Hid _ := hts.below hb
  have HD : Hid _ := hdb.below hb
  have HS : Hid (q.src.At w1) := IntsAt.below hb hs
  have HB : Hid _ := hb
  have HA : Hid _ := ha
  have H5 : Hid _ := h5
  clear hts hs hdb hb hw1 ha h5
  obtain ⟨⟨sad, scap, src⟩, wad, wcap, wh, group, keys, sums, sel, ord⟩ := q
  unfold QueryV.cells IntsV.val at *
  simp only at *
  by_cases hn : db.length = ts.length
  · have hne : ((db.length : Int) != (ts.length : Int)) = false := by rw [hn]; simp
    have HR : Hid (dataB ts src db = (dbB ts db && decide (prodN src db ≤ 20000))) := show _ = _ by simp [dataB, hn]
    have HN : Hid _ := hn
    clear hn
    go_enter Tryz.func21, Tryz.ntmps21
    go_wp2_with fail
    rw [HW1.out]
    go_loopw [7] (fun i wr => ∃ k : Nat, k ≤ db.length ∧ i = .int .i64 k ∧ Hid ((List.range k).all (fun i => tabB (db.getD i rz) (ts.getD i tz)) = true) ∧ Below w1.heap.size w1 wr) (fun i _ => db.length - (intOf i).toNat)
    case atStart => exact ⟨0, Nat.zero_le _, rfl, rfl, Below.refl _ _⟩
    case round =>
      obtain ⟨k, hk, rfl, HP, hbr⟩ := hrel
      by_cases hlt : k < db.length
      · obtain ⟨b, off, rfl, hcs⟩ := CellsAt.get HD.out.2.1 hlt
        have hck := cell_below hbr (hcs k hlt)
        have hat := HD.out.2.2 k hlt
        have hlt2 : k < ts.length := by have := HN.out; omega
        obtain ⟨tb, toff, rfl, t0, -, -, -, -, -⟩ := HT.out.2 k hlt2
        have HT0 : Hid _ := t0
        have HCK : Hid _ := hcs k hlt
        have HBD : Hid (tabB (db.getD k rz) (ts.getD k tz) = false → false = dataB ts src db) := fun h => by rw [HR.out]; rw [show dbB ts db = false from range_all_bad (p := fun i => tabB (db.getD i rz) (ts.getD i tz)) hlt h]; rfl
        have HGD : Hid (tabB (db.getD k rz) (ts.getD k tz) = true → (List.range (k + 1)).all (fun i => tabB (db.getD i rz) (ts.getD i tz)) = true) := fun h => range_all_step (p := fun i => tabB (db.getD i rz) (ts.getD i tz)) HP.out h
        generalize db.getD k rz = x at *
        generalize (ts.getD k tz) = tt at *
        obtain ⟨xad, xcap, rs⟩ := x
        obtain ⟨cols, trows, k0, k1, k2, k3⟩ := tt
        unfold RowsV.val at *
        simp only at *
        have hxl : rs.length ≤ 1152921504606846976 := hat.1
        have HX : Hid _ := hat
        clear hcs hat t0
        by_cases h50 : 50 < rs.length
        · have HY : Hid (false = dataB ts src db) := HBD.out (by unfold tabB; simp; omega)
          go_wp2
          go_ret
          exact ⟨ret_bool HY.out, Below.step HB.out hbr⟩
        · have HG5 : Hid (fitB rs cols = true → (List.range (k + 1)).all (fun i => tabB (db.getD i rz) (ts.getD i tz)) = true) := fun h => HGD.out (by unfold tabB; simp only [h, Bool.and_true, decide_eq_true_eq]; omega)
          have HB5 : Hid (fitB rs cols = false → false = dataB ts src db) := fun h => HBD.out (by unfold tabB; simp only [h, Bool.and_false])
          clear HGD HBD
          go_wp2
          have hbk := hbr
          clear hck hbr
          go_loopw [8] (fun i wr => ∃ m : Nat, m ≤ rs.length ∧ i = .int .i64 m ∧ Hid (fitB (rs.take m) cols = true) ∧ Below w1.heap.size w1 wr) (fun i _ => rs.length - (intOf i).toNat)
          case atStart => exact ⟨0, Nat.zero_le _, rfl, rfl, hbk⟩
          case round =>
            clear hbk
            obtain ⟨m, hm, rfl, HF, hbr⟩ := hrel
            have hck := cell_below hbr HCK.out
            by_cases hml : m < rs.length
            · obtain ⟨xb, xoff, rfl, hxc⟩ := CellsAt.get HX.out.2.1 hml
              have hcr := cell_below hbr (hxc m hml)
              have HCR : Hid _ := hxc m hml
              have hra := HX.out.2.2 m hml
              have hct := cell_below hbr HT0.out
              have HB6 : Hid (rowB (rs.getD m iz).xs cols = false → false = dataB ts src db) := fun h => HB5.out (allG_bad (p := fun r : IntsV => rowB r.xs cols) hml h)
              have HG6 : Hid (rowB (rs.getD m iz).xs cols = true → fitB (rs.take (m + 1)) cols = true) := fun h => allG_step (p := fun r : IntsV => rowB r.xs cols) hml HF.out h
              generalize rs.getD m iz = r at *
              obtain ⟨rad, rcap, xs⟩ := r
              unfold IntsV.val IntsV.At at *
              simp only at *
              have hrl : xs.length ≤ 1152921504606846976 := hra.1
              have HRA : Hid _ := hra
              clear hxc hra
              by_cases hnc : (xs.length : Int) = cols
              · have hnc2 : ((xs.length : Int) != cols) = false := by simpa using hnc
                have HNC : Hid _ := hnc
                clear hnc
                go_wp2
                go_region
                go_wp2
                have hbd : Below w1.heap.size w1 wr.drew := hbr.drew
                clear hbr hck hcr hct
                go_loopw [9] (fun i wr => ∃ j : Nat, j ≤ xs.length ∧ i = .int .i64 j ∧ Hid ((xs.take j).all valB = true) ∧ Below w1.heap.size w1 wr) (fun i _ => xs.length - (intOf i).toNat)
                case atStart => exact ⟨0, Nat.zero_le _, rfl, rfl, hbd⟩
                case round =>
                  obtain ⟨j, hj, rfl, HV, hbr⟩ := hrel
                  clear hbd
                  have hck := cell_below hbr HCK.out
                  have hcr := cell_below hbr HCR.out
                  by_cases hjl : j < xs.length
                  · obtain ⟨yb, yoff, rfl, hyc⟩ := IntsAt.get HRA.out hjl
                    have hyj := cell_below hbr (hyc j hjl)
                    have HVB : Hid (valB (xs.getD j 0) = false → false = dataB ts src db) := fun h => HB6.out (by unfold rowB; rw [allG_bad hjl h]; simp)
                    have HVG : Hid (valB (xs.getD j 0) = true → (xs.take (j + 1)).all valB = true) := fun h => allG_step hjl HV.out h
                    generalize xs.getD j 0 = y at *
                    clear hyc
                    by_cases y0 : y = 1073741824
                    · have f0 : (y != 1073741824) = false := by simpa using y0
                      have HY : Hid (valB y = true) := show _ = _ by simp [valB, y0]
                      clear y0
                      go_wp2
                      go_roundw
                      case rel => exact ⟨j + 1, by omega, by go_num, HVG.out HY.out, hbr⟩
                      case measure => simp [intOf]; omega
                    · have f0 : (y != 1073741824) = true := by simpa using y0
                      by_cases y1 : -1000 ≤ y
                      · by_cases y2 : y ≤ 1000
                        · have HY : Hid (valB y = true) := show _ = _ by simp [valB, y1, y2]
                          clear y0
                          go_wp2
                          go_roundw
                          case rel => exact ⟨j + 1, by omega, by go_num, HVG.out HY.out, hbr⟩
                          case measure => simp [intOf]; omega
                        · have HY : Hid (false = dataB ts src db) := HVB.out (by simp [valB, y0, y2])
                          clear y0
                          go_wp2
                          go_ret
                          exact ⟨ret_bool HY.out, Below.step HB.out hbr⟩
                      · have HY : Hid (false = dataB ts src db) := HVB.out (by simp [valB, y0, y1])
                        clear y0
                        go_wp2
                        go_ret
                        exact ⟨ret_bool HY.out, Below.step HB.out hbr⟩
                  · have hjj : j = xs.length := by omega
                    subst hjj
                    rw [List.take_length] at HV
                    have HG7 : Hid _ := HG6.out (by unfold rowB; rw [HV.out]; simp [HNC.out])
                    go_wp2
                    go_roundw
                    case rel => exact ⟨m + 1, by omega, by go_num, HG7.out, hbr⟩
                    case measure => simp [intOf]; omega
              · have hnc2 : ((xs.length : Int) != cols) = true := by simpa using hnc
                have HY : Hid (false = dataB ts src db) := HB6.out (by unfold rowB; simp [hnc])
                clear hnc
                go_wp2
                go_region
                go_wp2
                go_ret
                exact ⟨ret_bool HY.out, Below.step HB.out hbr.drew⟩
            · have hmm : m = rs.length := by omega
              subst hmm
              rw [List.take_length] at HF
              have HG7 : Hid _ := HG5.out HF.out
              go_wp2
              go_roundw
              case rel => exact ⟨k + 1, by omega, by go_num, HG7.out, hbr⟩
              case measure => simp [intOf]; omega
      · have hkk : k = db.length := by omega
        subst hkk
        have HDB : Hid (dbB ts db = true) := HP.out
        have HR2 : Hid (decide (prodN src db ≤ 20000) = dataB ts src db) := show _ = _ by rw [HR.out, HDB.out]; rfl
        clear HP HR
        have hs0 := cell_below hbr x0
        have hsl : src.length ≤ 5 := H5.out
        go_wp2
        clear hs0
        go_loopw [11, 12] (fun n i wr => ∃ k : Nat, k ≤ src.length ∧ i = .int .i64 k ∧ n = .int .i64 (prodN (src.take k) db : Nat) ∧ Below w1.heap.size w1 wr) (fun _ i _ => src.length - (intOf i).toNat)
        case atStart => exact ⟨0, Nat.zero_le _, rfl, rfl, hbr⟩
        case round =>
          clear hbr
          obtain ⟨k, hk, rfl, rfl, hbr⟩ := hrel
          have hs0 := cell_below hbr x0
          by_cases hlt : k < src.length
          · have hr := allB_at HA.out hlt
            obtain ⟨b1, o1, rfl, hc1⟩ := IntsAt.get HS.out hlt
            have hck := cell_below hbr (hc1 k hlt)
            have hj : src[k].toNat < db.length := by have := HN.out; omega
            obtain ⟨b2, o2, rfl, hc2⟩ := CellsAt.get HD.out.2.1 hj
            have hcl := cell_below hbr (hc2 _ hj)
            have e2 : src.getD k 0 = src[k] := by simp [List.getD, hlt]
            rw [e2] at hck
            have hps := prodN_succ (db := db) hlt
            have hp1 := prodN_take_le HDB.out H5.out (k + 1) (src := src)
            have hp0 := prodN_take_le HDB.out H5.out k (src := src)
            rw [hps] at hp1
            have hlen := dbB_len HDB.out src[k].toNat
            have HPS : Hid _ := hps
            clear hps hc1 hc2 e2
            generalize prodN (src.take k) db = P at *
            generalize db.getD src[k].toNat rz = y at *
            obtain ⟨yad, ycap, ys⟩ := y
            unfold RowsV.val at *
            simp only at *
            generalize src[k] = s1 at *
            obtain ⟨cm, rfl⟩ : ∃ cm : Nat, s1 = (cm : Int) := ⟨s1.toNat, by omega⟩
            simp only [Int.toNat_natCast] at hj hcl
            by_cases h0 : 0 < ys.length
            · have hmx : max 1 ys.length = ys.length := by omega
              rw [hmx] at HPS hp1
              have hwm : wrap64 ((P : Int) * (ys.length : Int)) = ((P * ys.length : Nat) : Int) := by
                have e : (P : Int) * (ys.length : Int) = ((P * ys.length : Nat) : Int) := by simp
                rw [e]
                unfold wrap64
                omega
              clear hmx hp0
              go_wp2
              go_roundw
              case rel => exact ⟨k + 1, by omega, by go_num, by rw [HPS.out]; first | rfl | (rw [hwm]) | simp, hbr⟩
              case measure => simp [intOf]; omega
            · have hmx : max 1 ys.length = 1 := by omega
              rw [hmx, Nat.mul_one] at HPS
              clear hmx hp0 hp1
              go_wp2
              go_roundw
              case rel => exact ⟨k + 1, by omega, by go_num, by rw [HPS.out], hbr⟩
              case measure => simp [intOf]; omega
          · have hkk : src.take k = src := List.take_of_length_le (by omega)
            rw [hkk]
            have hpl := prodN_small (src := src) HDB.out H5.out
            have HQ : Hid (∀ b : Bool, (b = true ↔ (prodN src db : Int) ≤ 20000) → b = dataB ts src db) := fun b hb => by
              rw [← HR2.out, Bool.eq_iff_iff, hb, decide_eq_true_eq]
              omega
            generalize prodN src db = P at *
            go_wp2
            go_ret
            exact ⟨ret_bool (HQ.out _ (by simp)), Below.step HB.out hbr⟩
  · have hne : ((db.length : Int) != (ts.length : Int)) = true := by
      have : ¬ (db.length : Int) = (ts.length : Int) := by omega
      simpa using this
    have HR : Hid (false = dataB ts src db) := show _ = _ by simp [dataB, hn]
    clear hn
    go_enter Tryz.func21, Tryz.ntmps21
    go_wp2_with fail
    rw [HW1.out]
    go_ret
    exact ⟨ret_bool HR.out, HB.out⟩

end Go.Proofs.YtlpbelhfpoilpaaGreat

namespace Go.Scout
open Go.RowKit

def numsTo (n : Nat) : List Int := (List.range n).map fun (i : Nat) => (i : Int)
theorem numsTo_len (n : Nat) : (numsTo n).length = n := by simp [numsTo]
theorem numsTo_succ (k : Nat) : numsTo (k + 1) = numsTo k ++ [(k : Int)] := by simp [numsTo, List.range_succ]

/-- A list of numbers that a call has put together, read. -/
theorem ints_of_own {w : World} {base : Nat} {e : TypeId} {v : Value} {n : Nat} {xs : List Int} (h : w.ownsRow base e 1 v n (xs.map (Value.int .i64))) (hl : xs.length ≤ 1152921504606846976) : ∃ iv : IntsV, v = iv.val ∧ iv.xs = xs ∧ iv.At w := by
  have hn : xs.length = n := by have := h.1; simpa using this
  rcases h.2 with ⟨rfl, h0⟩ | ⟨g, cap, cur, rfl, _, hh, _, _, _, ht⟩
  · have : xs = [] := List.eq_nil_of_length_eq_zero (by omega)
    subst this
    exact ⟨⟨none, 0, []⟩, rfl, rfl, ⟨by simp, fun i hi => absurd hi (by simp)⟩⟩
  · refine ⟨⟨some ⟨g, 0, none⟩, cap, xs⟩, by rw [← hn]; rfl, rfl, ⟨hl, fun i hi => ⟨g, 0, rfl, ?_⟩⟩⟩
    have hi' : i < xs.length := hi
    have h1 : (cur.toList.take (n * 1))[i]? = some (.int .i64 (xs.getD i 0)) := by
      rw [ht, List.getElem?_map]
      simp [List.getD, hi']
    rw [List.getElem?_take_of_lt (by omega)] at h1
    rw [Nat.zero_add]
    simp only [World.cell?, hh]
    simpa using h1

end Go.Scout
namespace Go.Proofs.YtlpbelhfpoilpaaGreat
open Go.RowKit Go.Scout

theorem Tryz.infoIntE : (Tryz.prog.info? 3).map (fun i => (i.zero, i.size, i.bytes)) = some (some (.int .i64 0), 1, 8) := by kernel_rfl

set_option maxRecDepth 20000 in
set_option maxHeartbeats 4000000 in
theorem numbers_any (n : Nat) (w : World) (hn : n ≤ 1000) :
    Calls Tryz.prog 24 #[.int .i64 n] w fun e w' => ∃ iv : IntsV, e = .returned iv.val ∧ iv.xs = numsTo n ∧ iv.At w' ∧ Below w.heap.size w w' := by
  obtain ⟨i0, hi, hz0, hz1, hz2⟩ := info_parts Tryz.infoIntE
  go_enter Tryz.func24, Tryz.ntmps24
  go_wp2
  go_loopw [3, 4] (fun v i wr => ∃ k : Nat, k ≤ n ∧ i = .int .i64 k ∧ wr.ownsRow w.heap.size 3 1 v k ((numsTo k).map (Value.int .i64)) ∧ Below w.heap.size w wr) (fun _ i _ => n - (intOf i).toNat)
  case atStart => exact ⟨0, Nat.zero_le _, rfl, World.ownsRow_nil _ _ _ _, Below.refl _ _⟩
  case round =>
    obtain ⟨k, hk, rfl, hown, hbr⟩ := hrel
    have hsz := hbr.size
    by_cases hlt : k < n
    · go_wp2_with (first | (at_builtin; refine wpList_append_own _ rfl (.tmp 10) (.tmp 12) 23 rfl w.heap.size 3 i0 (.int .i64 0) 1 8 Tryz.underlying23 hi hz0 hz1 hz2 rfl (by decide) _ _ _ rfl (hown.alloc _) ⟨wr.heap.size, 0, none⟩ 1 1 [.int .i64 k] rfl rfl ?q1 ?q2 ?q3 ?q4 ?q5 ?_))
      case q1 =>
        intro j u hj
        match j, hj with
        | 0, hj => simp at hj; subst hj; simp [Addr.add]
      case q2 => intro u hu; simp at hu; subst hu; rfl
      case q3 => unfold maxLen; omega
      case q4 => omega
      case q5 => simp; omega
      intro v' w1 hown1 hgrow1 _
      have hb1 : Below w.heap.size w w1 := (hbr.alloc hsz _).grown hgrow1 (by simp; omega) (fun j hj => (hown.lt j hj).1)
      have e1 : (numsTo (k + 1)).map (Value.int .i64) = (numsTo k).map (Value.int .i64) ++ [.int .i64 k] := by
        rw [numsTo_succ, List.map_append]
        rfl
      have HO : Hid (w1.ownsRow w.heap.size 3 1 v' (k + 1) ((numsTo (k + 1)).map (Value.int .i64))) := show World.ownsRow _ _ _ _ _ _ _ by rw [e1]; exact hown1
      clear e1 hown1 hgrow1 hown
      go_wp2
      go_roundw
      case rel => exact ⟨k + 1, by omega, by go_num, HO.out, hb1⟩
      case measure => simp [intOf]; omega
    · have hkk : k = n := by omega
      subst hkk
      obtain ⟨iv, hv, hxs, hat⟩ := ints_of_own hown (by rw [numsTo_len]; omega)
      have HX : Hid _ := hxs
      have HA : Hid _ := hat
      rw [hv]
      clear hown hv hxs hat
      unfold IntsV.val
      go_wp2
      go_ret
      exact ⟨iv, rfl, HX.out, HA.out, hbr⟩

end Go.Proofs.YtlpbelhfpoilpaaGreat

