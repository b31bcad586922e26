import Derived.Test.YtlpbelhfpoilpaaGreatDoorC01
import Derived.Test.YtlpbelhfpoilpaaGreatDoorC29
import Derived.Test.YtlpbelhfpoilpaaGreatDoorC31
import Derived.Test.YtlpbelhfpoilpaaGreatDoorC35
set_option linter.all false
set_option maxRecDepth 100000
set_option maxHeartbeats 16000000
namespace Go.Proofs.YtlpbelhfpoilpaaGreatDoor
open Go.RowKit Go.Scout
theorem ref_full2 (ao:Option Addr) (cap:Nat) (ts:List TableD) (q:QueryV) (w:World) (hx:TablesAt w ao ts) (hq:q.At w) (hc:catB ts=true)
  (hf:¬ (5<q.src.xs.length∨8<q.wh.length∨8<q.sel.xs.length∨4<q.keys.xs.length∨4<q.sums.xs.length∨4<q.ord.xs.length)) (hw:wideB q.wh q.wh.length=true) :
  Calls Tryz.prog 42 #[.slice ao ts.length cap,.agg q.cells] w fun e w'=>e=.returned (.int .i64 (q.check ts))/\Below w.heap.size w w':=by
 have HF:Hid ((2:Int)=q.check ts):=QueryV.check_full hc (fullB_any (by rw[wideB_all]; exact hw));have hx1:=fun o=>hx.below (bQ2 w o)
 have hwl:=hq.wh;generalize q.check ts=R at *;clear hq;obtain⟨src,wad,wcap,wh,group,keys,sums,sel,ord⟩:=q;simp only at hf hwl hw;unfold QueryV.cells IntsV.val;simp only;have h1:¬ 5<src.xs.length:=by omega
 have h2:¬ 8<wh.length:=by omega
 have h3:¬ 8<sel.xs.length:=by omega
 have h4:¬ 4<keys.xs.length:=by omega
 have h5:¬ 4<sums.xs.length:=by omega
 have h6:¬ 4<ord.xs.length:=by omega
 have HW:Hid (wideB wh wh.length=true):=hw;clear hf hw;go_enter Tryz.func42,Tryz.ntmps42;go_wp2_with (go_at_call 87; refine (isCatalog_any _ _ _ _ (hx1 _)).mono ?_; rw[hc]; rintro e w' ⟨rfl,hb⟩; have hcell:=bcell hb; simp at hcell);go_loop [6,7] (fun f i=>∃ k:Nat,k<=wh.length/\i=.int .i64 k/\f=.bool (wideB wh k)) (fun _ i=>wh.length-(intOf i).toNat)
 case atStart=>exact⟨0,Nat.zero_le _,rfl,by simp[wideB]; omega⟩
 case round=>
  obtain⟨k,hk,rfl,rfl⟩:=hrel;by_cases hlt:k<wh.length
  ·have hs:=wideB_succ hlt;obtain⟨b,off,rfl,hcl⟩:=hwl.2.1.get hlt;have hck:=cB (bQ1 (bQ2 _ _) hb) (hcl k hlt);unfold ClauseV.val at hck;generalize (wh.getD k lz).ad=ad at *;generalize (wh.getD k lz).cap=cp at *;generalize (wh.getD k lz).cs.length=cl at *
   cases hb0:wideB wh k
   ·have HS:Hid (wideB wh (k+1)=decide (3<cl)):=show wideB wh (k+1)=decide (3<cl) by rw[hs,hb0,Bool.false_or]
    clear hs hb0 hcl hwl;by_cases h3c:3<cl
    ·go_wp2;go_round
     case rel=>exact⟨k+1,by omega,by go_num,val_boolI (by rw[HS.out]; simp; omega)⟩
     case measure=>simp[intOf]; omega
    ·go_wp2;go_round
     case rel=>exact⟨k+1,by omega,by go_num,val_boolI (by rw[HS.out]; simp; omega)⟩
     case measure=>simp[intOf]; omega
   ·have HS:Hid (wideB wh (k+1)=true):=show wideB wh (k+1)=true by rw[hs,hb0,Bool.true_or]
    clear hs hb0 hcl hwl;go_wp2;go_round
    case rel=>exact⟨k+1,by omega,by go_num,by rw[HS.out]⟩
    case measure=>simp[intOf]; omega
  ·have hkk:k=wh.length:=by omega
   subst hkk;rw[HW.out];go_wp2;go_ret;exact⟨ret_int HF.out,bQ1 (bQ2 _ _) hb⟩
theorem ref_main (ao:Option Addr) (cap:Nat) (ts:List TableD) (q:QueryV) (w:World) (hx:TablesAt w ao ts) (hq:q.At w) (hc:catB ts=true)
  (hf:¬ (5<q.src.xs.length∨8<q.wh.length∨8<q.sel.xs.length∨4<q.keys.xs.length∨4<q.sums.xs.length∨4<q.ord.xs.length)) (hw:wideB q.wh q.wh.length=false) :
  Calls Tryz.prog 42 #[.slice ao ts.length cap,.agg q.cells] w fun e w'=>e=.returned (.int .i64 (q.check ts))/\Below w.heap.size w w':=by
 have hfull:fullB q.src.xs q.whs q.keys.xs q.sums.xs q.sel.xs q.ord.xs=false:=fullB_no (by simpa [QueryV.whs] using hf) (by rw[wideB_all]; exact hw);have HBAD:=@QueryV.check_bad q ts hc hfull;have HOK:=@QueryV.check_ok q ts hc hfull;have HCB:=@clausesB_bad q (widthN ts q.src.xs);have HCG:=@clausesB_good q (widthN ts q.src.xs);have hx1:=fun o=>hx.below (bQ2 w o)
 have hwm:=@wideB_mono q.wh;generalize hR:q.check ts=R at *;generalize hqv:q.cells=C at *;have hcv:C=q.cells:=hqv.symm;clear hqv;obtain⟨src,wad,wcap,wh,group,keys,sums,sel,ord⟩:=q;have hcv':=hcv;unfold QueryV.cells IntsV.val at hcv';subst hcv';simp only at hf hw HBAD HOK HCB HCG hwm;have hsrc:IntsAt w src.ad src.xs:=hq.src;have hkeys:IntsAt w keys.ad keys.xs:=hq.keys;have hsums:IntsAt w sums.ad sums.xs:=hq.sums;have hsel:IntsAt w sel.ad sel.xs:=hq.sel;have hord:IntsAt w ord.ad ord.xs:=hq.ord;have hwh:ClausesAt w wad wh:=hq.wh;clear hq;have h1:¬ 5<src.xs.length:=by omega
 have h2:¬ 8<wh.length:=by omega
 have h3:¬ 8<sel.xs.length:=by omega
 have h4:¬ 4<keys.xs.length:=by omega
 have h5:¬ 4<sums.xs.length:=by omega
 have h6:¬ 4<ord.xs.length:=by omega
 have HW:Hid (∀ k,k<wh.length->(wh.getD k lz).cs.length<=3):=fun k hk=>hwm hk hw
 have HBD:Hid _:=HBAD;have HOK':Hid _:=HOK;have HCB':Hid (∀ {k:Nat},k<wh.length->clauseB (wh.getD k lz).cs (widthN ts src.xs)=false->_):=HCB;have HCG':Hid _:=HCG;have HCV:Hid _:=hcv;clear hf hw hwm HBAD HOK HCB HCG hcv hfull hR;go_enter Tryz.func42,Tryz.ntmps42;go_wp2_with (go_at_call 87; refine (isCatalog_any _ _ _ _ (hx1 _)).mono ?_; rw[hc]; rintro e w' ⟨rfl,hb⟩; have hcell:=bcell hb; simp at hcell);go_loop [6,7] (fun f i=>∃ k:Nat,k<=wh.length/\i=.int .i64 k/\f=.bool false) (fun _ i=>wh.length-(intOf i).toNat)
 case atStart=>exact⟨0,Nat.zero_le _,rfl,val_boolI (by simp; omega)⟩
 case round=>
  obtain⟨k,hk,rfl,rfl⟩:=hrel;by_cases hlt:k<wh.length
  ·have hw3:=HW.out k hlt;obtain⟨b,off,rfl,hcl⟩:=hwh.2.1.get hlt;have hck:=cB (bQ1 (bQ2 _ _) hb) (hcl k hlt);unfold ClauseV.val at hck;generalize (wh.getD k lz).ad=ad at *;generalize (wh.getD k lz).cap=cp at *;generalize (wh.getD k lz).cs.length=cl at *;have h3c:¬ 3<cl:=by omega
   clear hcl hw3 hsrc hkeys hsums hsel hord hwh;go_wp2;go_round
   case rel=>exact⟨k+1,by omega,by go_num,val_boolI (by simp; omega)⟩
   case measure=>simp[intOf]; omega
  ·have hz:w.heap.size<w'.heap.size:=by have:=hb.size; simp at this; omega
   have hb0:=bQ1 (bQ2 _ _) hb;by_cases ha:allB src.xs ts.length=true
   ·go_wp2_with fail;have hC:=all_any src.ad src.cap src.xs ts.length w' (hsrc.below hb0);rw[ha] at hC;refine hC.mono ?_;clear hC;rintro e w2 ⟨rfl,rfl⟩;by_cases h0:src.xs.length=0
    ·have HF:Hid ((3:Int)=R):=HBD.out (fun h=>by have:=h.2.1; omega);go_wp2;go_ret;exact⟨ret_int HF.out,hb0⟩
    ·have h0':((src.xs.length:Int)==0)=false:=by simpa using h0
     have hn:=widthN_bd hc ha _ (Nat.le_refl src.xs.length);rw[List.take_length] at hn;have hn0:0<=widthN ts src.xs:=hn.1;have hn1:widthN ts src.xs<=1000:=by omega
     have hC:=width_any ao cap ts ⟨src,wad,wcap,wh,group,keys,sums,sel,ord⟩ w2 (hx.below hb0) hc (hsrc.below hb0) (by simp only; omega) ha;unfold QueryV.cells IntsV.val at hC;simp only at hC;generalize hN:widthN ts src.xs=N at *;clear hn hN;go_wp2_with fail;refine hC.mono ?_;clear hC;rintro e w3 ⟨rfl,hb3⟩;have hsz:w.heap.size+1<=w2.heap.size:=hz;have hb03:=bQ1 hb0 hb3;have f0:w3.cell? (aD w.heap.size 0)=some (.slice src.ad src.xs.length src.cap):=cB hb3 (by rw[hcell _ _ (by omega)]; simp);have f1:w3.cell? (aD w.heap.size 1)=some (.slice wad wh.length wcap):=cB hb3 (by rw[hcell _ _ (by omega)]; simp);have f2:w3.cell? (aD w.heap.size 2)=some (.bool group):=cB hb3 (by rw[hcell _ _ (by omega)]; simp);have f3:w3.cell? (aD w.heap.size 3)=some (.slice keys.ad keys.xs.length keys.cap):=cB hb3 (by rw[hcell _ _ (by omega)]; simp);have f4:w3.cell? (aD w.heap.size 4)=some (.slice sums.ad sums.xs.length sums.cap):=cB hb3 (by rw[hcell _ _ (by omega)]; simp);have f5:w3.cell? (aD w.heap.size 5)=some (.slice sel.ad sel.xs.length sel.cap):=cB hb3 (by rw[hcell _ _ (by omega)]; simp);have f6:w3.cell? (aD w.heap.size 6)=some (.slice ord.ad ord.xs.length ord.cap):=cB hb3 (by rw[hcell _ _ (by omega)]; simp);clear hcell hb hx1 hx hsrc hz;go_wp2_with fail;go_loopw [10] (fun i wr=>∃ k:Nat,k<=wh.length/\i=.int .i64 k/\Hid (∀ j,j<k->clauseB (wh.getD j lz).cs N=true)/\Below w3.heap.size w3 wr) (fun i _=>wh.length-(intOf i).toNat)
     case atStart=>exact⟨0,Nat.zero_le _,rfl,fun j hj=>absurd hj (by omega),Below.refl _ _⟩
     case round=>
      obtain⟨k,hk,rfl,HP,hbr⟩:=hrel;have g1:=cB hbr f1;by_cases hlt:k<wh.length
      ·obtain⟨b,off,rfl,hcl⟩:=hwh.2.1.get hlt;have hck:=cB hb03 (hcl k hlt);have hcd:=(hwh.2.2 k hlt).below hb03;have HBc:Hid (clauseB (wh.getD k lz).cs N=false->(3:Int)=R):=fun hcc=>HBD.out (fun h=>by have:=h.2.2.1; rw[HCB'.out hlt hcc] at this; cases this)
       generalize hge:wh.getD k lz=cl at *;have HGE:Hid (wh.getD k lz=cl):=hge;clear hge hcl;obtain⟨ad,cp,cs⟩:=cl;unfold ClauseV.val at hck;simp only at hck hcd;have hcl2:=hcd.1;have gk:=cB hbr hck;go_wp2;go_loopw [11] (fun i wr2=>∃ m:Nat,m<=cs.length/\i=.int .i64 m/\Hid (∀ j,j<m->condB (cs.getD j cz) N=true)/\Below w3.heap.size w3 wr2) (fun i _=>cs.length-(intOf i).toNat)
       case atStart=>exact⟨0,Nat.zero_le _,rfl,fun j hj=>absurd hj (by omega),hbr⟩
       case round=>
        obtain⟨m,hm,rfl,HM,hbr2⟩:=hrel;clear g1 gk;have g1:=cB hbr2 f1;have gk:=cB hbr2 hck;by_cases hml:m<cs.length
        ·obtain⟨b2,off2,rfl,c0,c1,c2,c3,c4⟩:=hcd.2 m hml;have d0:=cB hbr2 c0;have d1:=cB hbr2 c1;have d2:=cB hbr2 c2;have d3:=cB hbr2 c3;have d4:=cB hbr2 c4;clear c0 c1 c2 c3 c4;have hC:=isCond_any (cs.getD m cz) N wr hn0 hn1;unfold CondD.val at hC;generalize hgc:cs.getD m cz=cc at *;have HGC:Hid (cs.getD m cz=cc):=hgc;clear hgc
         cases hcb:condB cc N
         ·rw[hcb] at hC;have HF:Hid ((3:Int)=R):=HBc.out (clauseB_bad hml (by rw[HGC.out]; exact hcb));go_wp2_with fail;refine hC.mono ?_;clear hC;rintro e w4 ⟨rfl,hb4⟩;go_wp2;go_ret;exact⟨ret_int HF.out,bQ1 hb03 (bQ1 hbr2 hb4)⟩
         ·rw[hcb] at hC;have HCB2:Hid (condB cc N=true):=hcb;clear hcb;go_wp2_with fail;refine hC.mono ?_;clear hC;rintro e w4 ⟨rfl,hb4⟩;go_wp2;go_roundw
          case rel=>
           refine⟨m+1,by omega,by go_num,fun j hj=>?_,bQ1 hbr2 hb4⟩;by_cases hjm:j=m
           ·subst hjm; rw[HGC.out]; exact HCB2.out
           ·exact HM.out j (by omega)
          case measure=>simp[intOf]; omega
        ·by_cases hc0:cs.length=0
         ·have HF:Hid ((3:Int)=R):=HBc.out (clauseB_none (by omega));go_wp2;go_ret;exact⟨ret_int HF.out,bQ1 hb03 hbr2⟩
         ·have hc0':((cs.length:Int)==0)=false:=by simpa using hc0
          have HG:Hid (clauseB cs N=true):=clauseB_good (by omega) (fun j hj=>HM.out j (by omega));clear hc0;go_wp2;go_roundw
          case rel=>
           refine⟨k+1,by omega,by go_num,fun j hj=>?_,hbr2⟩;by_cases hjk:j=k
           ·subst hjk; rw[HGE.out]; exact HG.out
           ·exact HP.out j (by omega)
          case measure=>simp[intOf]; omega
      ·have HCL:Hid (clausesB (QueryV.whs ⟨src,wad,wcap,wh,group,keys,sums,sel,ord⟩) N=true):=HCG'.out (fun j hj=>HP.out j (by omega));have g2:=cB hbr f2;have g3:=cB hbr f3;have g4:=cB hbr f4;have g5:=cB hbr f5;have g6:=cB hbr f6;have hbw:=bQ1 hb03 hbr;have g0:=cB hbr f0;clear hwh f0 f1 f2 f3 f4 f5 f6 HP HCG' HCB' hbr hb03 hb3 hb0;go_wp2_with fail;refine (all_any sel.ad sel.cap sel.xs N wr (hsel.below hbw)).mono ?_;rintro e wa ⟨rfl,rfl⟩;go_wp2_with fail;refine (all_any keys.ad keys.cap keys.xs N wa (hkeys.below hbw)).mono ?_;rintro e wb ⟨rfl,rfl⟩;go_wp2_with fail;refine (all_any sums.ad sums.cap sums.xs N wb (hsums.below hbw)).mono ?_;rintro e wc ⟨rfl,rfl⟩;go_wp2_with fail;refine wp_region_below (by kernel_rfl) (by kernel_rfl) ?_;refine BigFrame.wpQuiet_want rfl (fun K hK=>⟨.pointer (some (aD w.heap.size 6)),fun x hx=>?_,hK _ ?_⟩)
       ·clear hK K; go_simp
       clear hK K;refine BigFrame.wpQuiet_want rfl (fun K hK=>⟨.slice ord.ad ord.xs.length ord.cap,fun x hx=>?_,hK _ ?_⟩)
       ·have e6:=cB hx g6;clear hK K; go_simp
       clear hK K;refine BigFrame.wpQuiet_want rfl (fun K hK=>⟨.agg #[.slice src.ad src.xs.length src.cap,.slice wad wh.length wcap,.bool group,.slice keys.ad keys.xs.length keys.cap,.slice sums.ad sums.xs.length sums.cap,.slice sel.ad sel.xs.length sel.cap,.slice ord.ad ord.xs.length ord.cap],fun x hx=>?_,hK _ ?_⟩)
       ·have e0:=cB hx g0;have e1:=cB hx g1;have e2:=cB hx g2;have e3:=cB hx g3;have e4:=cB hx g4;have e5:=cB hx g5;have e6:=cB hx g6;clear hK K; go_simp
       clear hK K;refine BigFrame.wpQuiet_want rfl (fun K hK=>⟨.int .i64 (outN group keys.xs sums.xs sel.xs),fun x hx=>?_,hK _ ?_⟩)
       ·have hC:=Calls.within hx (out_any ⟨src,wad,wcap,wh,group,keys,sums,sel,ord⟩ x (by simp only; omega) (by simp only; omega));unfold QueryV.cells IntsV.val at hC;clear hK K; go_simp
       clear hK K;refine BigFrame.wpQuiet_want rfl (fun K hK=>⟨.bool (allB ord.xs (outN group keys.xs sums.xs sel.xs)),fun x hx=>?_,hK _ ?_⟩)
       ·have hC:=Calls.within_same hx (all_any ord.ad ord.cap ord.xs (outN group keys.xs sums.xs sel.xs) x ((hord.below hbw).below hx));clear hK K; go_simp
       clear hK K;refine BigFrame.wpQuiet_want rfl (fun K hK=>⟨.bool (allB ord.xs (outN group keys.xs sums.xs sel.xs)),fun x hx=>?_,hK _ ?_⟩)
       ·clear hK K; go_simp
       clear hK K;refine wpQuiet_nil ?_;intro wd hbd;have hbw2:=bQ1 hbw hbd;have k2:=cB hbd g2;have k3:=cB hbd g3;have k4:=cB hbd g4;have k5:=cB hbd g5;have k6:=cB hbd g6;clear g0 g1 g2 g3 g4 g5 g6 hsums hsel hbd hbw;go_wp2_with fail;refine (Calls.drawn (apart_any keys.ad keys.cap keys.xs wd (hkeys.below hbw2))).mono ?_;rintro e we ⟨rfl,hbe⟩;have hbw3:=bQ1 hbw2 hbe;have g2:=cB hbe k2;have g3:=cB hbe k3;have g4:=cB hbe k4;have g5:=cB hbe k5;have g6:=cB hbe k6;clear k2 k3 k4 k5 k6 hbe hbw2 hkeys;go_wp2_with fail;refine (Calls.drawn (apart_any ord.ad ord.cap ord.xs we (hord.below hbw3))).mono ?_;rintro e wf ⟨rfl,hbe⟩;have hbw4:=bQ1 hbw3 hbe;have k2:=cB hbe g2;have k3:=cB hbe g3;have k4:=cB hbe g4;have k5:=cB hbe g5;clear g2 g3 g4 g5 g6 hbe hbw3 hord;have HR3:Hid (restB N group keys.xs sums.xs sel.xs ord.xs=false->(3:Int)=R):=fun hr=>HBD.out (fun h=>by have:=h.2.2.2; rw[hr] at this; cases this)
       have HR0:Hid (restB N group keys.xs sums.xs sel.xs ord.xs=true->(0:Int)=R):=fun hr=>HOK'.out ⟨ha,by omega,HCL.out,hr⟩
       go_wp2
       all_goals
        go_ret
        first
        | exact⟨ret_int (HR3.out (rest_sel ‹_›)),hbw4⟩
        | exact⟨ret_int (HR3.out (rest_keys ‹_›)),hbw4⟩
        | exact⟨ret_int (HR3.out (rest_sums ‹_›)),hbw4⟩
        | exact⟨ret_int (HR3.out (rest_ord ‹_›)),hbw4⟩
        | exact⟨ret_int (HR3.out (rest_ak ‹_›)),hbw4⟩
        | exact⟨ret_int (HR3.out (rest_ao ‹_›)),hbw4⟩
        | exact⟨ret_int (HR3.out (rest_grp ‹_›)),hbw4⟩
        | exact⟨ret_int (HR3.out (rest_ks ‹_› ‹_›)),hbw4⟩
        | exact⟨ret_int (HR0.out (rest_ok1 ‹_› ‹_› ‹_› ‹_› ‹_› ‹_› ‹_› ‹_›)),hbw4⟩
        | exact⟨ret_int (HR0.out (rest_ok2 ‹_› ‹_› ‹_› ‹_› ‹_› ‹_› ‹_› ‹_›)),hbw4⟩
   ·have ha':allB src.xs ts.length=false:=by simpa using ha
    have HF:Hid ((3:Int)=R):=HBD.out (fun h=>ha h.1);go_wp2_with fail;have hC:=all_any src.ad src.cap src.xs ts.length w' (hsrc.below hb0);rw[ha'] at hC;refine hC.mono ?_;clear hC;rintro e w2 ⟨rfl,rfl⟩;go_wp2;go_ret;exact⟨ret_int HF.out,hb0⟩
theorem refCheck_any (ao:Option Addr) (cap:Nat) (ts:List TableD) (q:QueryV) (w:World) (hx:TablesAt w ao ts) (hq:q.At w) :
  Calls Tryz.prog 42 #[.slice ao ts.length cap,.agg q.cells] w fun e w'=>e=.returned (.int .i64 (q.check ts))/\Below w.heap.size w w':=by
 cases hc:catB ts
 ·exact ref_nocat ao cap ts q w hx hc
 ·by_cases hf:5<q.src.xs.length∨8<q.wh.length∨8<q.sel.xs.length∨4<q.keys.xs.length∨4<q.sums.xs.length∨4<q.ord.xs.length
  ·exact ref_full1 ao cap ts q w hx hq hc hf
  ·cases hw:wideB q.wh q.wh.length
   ·exact ref_main ao cap ts q w hx hq hc hf hw
   ·exact ref_full2 ao cap ts q w hx hq hc hf hw
end Go.Proofs.YtlpbelhfpoilpaaGreatDoor
namespace Go.Scout
open Go.RowKit
def readE (ts:List TableD) (q:QueryV) (pl:List NodeV):Int:=if q.check ts=0 then (if (readN ts q pl).isSome=true then 0 else 5) else q.check ts
def viewCost:Option ViewD->Nat
 | some v => v.cost
 | none => 0
def readC (ts:List TableD) (q:QueryV) (pl:List NodeV):Nat:=if q.check ts=0 then viewCost (readN ts q pl) else 0
def ReadPost (E:Int) (C:Nat) (w:World) (e:Ending) (w':World):Prop:=∃ v:ViewV,e=.returned (.tuple #[.agg v.cells,.int .i64 E])/\v.cost=C/\Below w.heap.size w w'
end Go.Scout
namespace Go.Proofs.YtlpbelhfpoilpaaGreatDoor
open Go.RowKit Go.Scout
theorem read_any (ao po:Option Addr) (cap pcap:Nat) (ts:List TableD) (q:QueryV) (pl:List NodeV) (w:World) (hx:TablesAt w ao ts) (hq:q.At w) (hn:NodesAt w po pl) :
  Calls Tryz.prog 14 #[.slice ao ts.length cap,.agg q.cells,.slice po pl.length pcap] w (ReadPost (readE ts q pl) (readC ts q pl) w):=by
 obtain⟨w1,hw1⟩:∃ x,w.alloc (.cells q.cells 26)=x:=⟨_,rfl⟩
 have hk1:Below w.heap.size w w1:=by rw[<- hw1]; exact bQ2 _ _
 have hg1:GB w1 w.heap.size 26 q.cells:=by rw[<- hw1]; exact bQ3 _ _
 obtain⟨w2,hw2⟩:∃ x,w1.alloc (.cells #[.slice none 0 0,.slice none 0 0,.slice none 0 0,.bool false,.int .u64 0,.int .u64 0] 40)=x:=⟨_,rfl⟩
 have hk2:Below w1.heap.size w1 w2:=by rw[<- hw2]; exact bQ2 _ _
 have hg2:GB w2 w1.heap.size 40 #[.slice none 0 0,.slice none 0 0,.slice none 0 0,.bool false,.int .u64 0,.int .u64 0]:=by rw[<- hw2]; exact bQ3 _ _
 have hc1:=hk2;have hc0:Below w.heap.size w w2:=bQ1 hk1 hc1;have gg1:GB w2 w.heap.size 26 q.cells:=hg1.of (hc1.block _ hg1.lt);have g1_0:w2.cell? (aD w.heap.size 0)=some (q.src.val):=gg1.cell 0;have g1_1:w2.cell? (aD w.heap.size 1)=some (.slice q.wad q.wh.length q.wcap):=gg1.cell 1;have g1_2:w2.cell? (aD w.heap.size 2)=some (.bool q.group):=gg1.cell 2;have g1_3:w2.cell? (aD w.heap.size 3)=some (q.keys.val):=gg1.cell 3;have g1_4:w2.cell? (aD w.heap.size 4)=some (q.sums.val):=gg1.cell 4;have g1_5:w2.cell? (aD w.heap.size 5)=some (q.sel.val):=gg1.cell 5;have g1_6:w2.cell? (aD w.heap.size 6)=some (q.ord.val):=gg1.cell 6;have gg2:=hg2;have hCH:=refCheck_any ao cap ts q w2 (hx.below hc0) (hq.below hc0);obtain⟨CHK,hCHK⟩:∃ c,c=q.check ts:=⟨_,rfl⟩
 obtain⟨RE,hRE⟩:∃ c,c=readE ts q pl:=⟨_,rfl⟩
 obtain⟨RC,hRC⟩:∃ c,c=readC ts q pl:=⟨_,rfl⟩
 have HRE:Hid (RE=if CHK=0 then (if (readN ts q pl).isSome=true then 0 else 5) else CHK):=by show _=_; rw[hRE,hCHK]; rfl
 have HRC:Hid (RC=if CHK=0 then viewCost (readN ts q pl) else 0):=by show _=_; rw[hRC,hCHK]; rfl
 have HDA:Hid (CHK=0->∀ x,Below w.heap.size w x->pl.length<=64->DataP x ao po ts q pl):=fun h0 x hb hl=>⟨hx.below hb,hq.below hb,NodesAt.below hb hn,(chk_of (ts:=ts) (q:=q) (by rw[<- hCHK]; exact h0)).1,hl⟩
 have HCK:Hid (CHK=0->(q.group=false->allB q.ord.xs q.sel.xs.length=true)/\q.ord.xs.length<=4):=fun h0=>by
  obtain⟨_,_,h3,h4,_⟩:=chk_of (ts:=ts) (q:=q) (by rw[<- hCHK]; exact h0);exact⟨h3,h4⟩
 rw[<- hCHK] at hCH;rw[<- hRE,<- hRC];have HC:Hid _:=hc0;have HW:Hid (w.heap.size<=w1.heap.size):=hk1.size;have HGR:Hid (GB w2 w1.heap.size 40 #[.slice none 0 0,.slice none 0 0,.slice none 0 0,.bool false,.int .u64 0,.int .u64 0]):=gg2;have hpl:=hn.1;clear hCHK hRE hRC hx hq hn hk1 hk2 hg1 hg2 gg1 gg2 hc0 hc1;obtain⟨⟨sa,sc,src⟩,wad,wcap,wh,group,⟨ka,kc,keys⟩,⟨ua,uc,sums⟩,⟨ea,ec,sel⟩,⟨da,dc,ord⟩⟩:=q;have hQC:QueryV.cells ⟨⟨sa,sc,src⟩,wad,wcap,wh,group,⟨ka,kc,keys⟩,⟨ua,uc,sums⟩,⟨ea,ec,sel⟩,⟨da,dc,ord⟩⟩=#[.slice sa src.length sc,.slice wad wh.length wcap,.bool group,.slice ka keys.length kc,.slice ua sums.length uc,.slice ea sel.length ec,.slice da ord.length dc]:=rfl;rw[hQC] at hw1 hCH ⊢;simp only[IntsV.val] at g1_0 g1_1 g1_2 g1_3 g1_4 g1_5 g1_6;clear hQC;go_enter Tryz.func14,Tryz.ntmps14;go_wp2_with fail;refine hCH.mono ?_;rintro e w3 ⟨rfl,hb3⟩;clear hCH hw1 hw2;have HB3:Hid (Below w2.heap.size w2 w3):=hb3;by_cases hz:CHK=0
 ·subst hz;have HE5:Hid (readN ts ⟨⟨sa,sc,src⟩,wad,wcap,wh,group,⟨ka,kc,keys⟩,⟨ua,uc,sums⟩,⟨ea,ec,sel⟩,⟨da,dc,ord⟩⟩ pl=none->RE=5/\RC=0):=fun h=>by rw[HRE.out,HRC.out,if_pos rfl,if_pos rfl,h]; exact⟨rfl,rfl⟩
  have HE0:Hid (∀ vd,readN ts ⟨⟨sa,sc,src⟩,wad,wcap,wh,group,⟨ka,kc,keys⟩,⟨ua,uc,sums⟩,⟨ea,ec,sel⟩,⟨da,dc,ord⟩⟩ pl=some vd->RE=0/\RC=vd.cost):=fun vd h=>by rw[HRE.out,HRC.out,if_pos rfl,if_pos rfl,h]; exact⟨rfl,rfl⟩
  by_cases hlen:pl.length<1∨64<pl.length
  ·have HV:Hid (RE=5/\RC=0):=HE5.out (by unfold readN; rw[if_pos hlen]);have gR:GB w3 w1.heap.size 40 #[.slice none 0 0,.slice none 0 0,.slice none 0 0,.bool false,.int .u64 0,.int .u64 0]:=HGR.out.of (HB3.out.block _ HGR.out.lt);have hkR:=World.put6_kept w3 w1.heap.size vvz;have HLV:Hid _:=loadView (World.put6_gb gR vvz);have HBR:Below w.heap.size w (World.put6 w3 w1.heap.size vvz):=(bQ1 HC.out HB3.out).trans (hkR.below (bQ1 HC.out HB3.out).size (fun b hb=>by have:=HW.out; omega));have x0:w3.cell? (aD w1.heap.size 0)=some (.slice none 0 0):=gR.cell 0;have y0:=gR.frozen 0;have x1:w3.cell? (aD w1.heap.size 1)=some (.slice none 0 0):=gR.cell 1;have y1:=gR.frozen 1;have x2:w3.cell? (aD w1.heap.size 2)=some (.slice none 0 0):=gR.cell 2;have y2:=gR.frozen 2;have x3:w3.cell? (aD w1.heap.size 3)=some (.bool false):=gR.cell 3;have y3:=gR.frozen 3;have x4:w3.cell? (aD w1.heap.size 4)=some (.int .u64 0):=gR.cell 4;have y4:=gR.frozen 4;have x5:w3.cell? (aD w1.heap.size 5)=some (.int .u64 0):=gR.cell 5;have y5:=gR.frozen 5;rcases hlen with h | h
   ·have h':(pl.length:Int)<1:=by omega
    clear h;have HEND:Hid (ReadPost RE RC w (.returned (.tuple #[.agg #[.slice none 0 0,.slice none 0 0,.slice none 0 0,.bool false,.int .u64 0,.int .u64 0],.int .i64 5])) (World.put6 w3 w1.heap.size (vvz))):=⟨vvz,by rw[HV.out.1]; rfl,HV.out.2.symm,HBR⟩
    unfold World.put6 at HEND HLV;simp only[ViewV.cells,vvz,IntsV.val,List.length_nil,Int.natCast_zero] at HEND HLV;clear gR hkR HBR;go_wp2;exact bodyPost_ret (ret_cell (p:=6) (u:=7) (x:=.int .i64 5) rfl rfl rfl HLV.out) rfl HEND.out
   ·have h':(64:Int)<(pl.length:Int):=by omega
    have h'':¬ (pl.length:Int)<1:=by omega
    clear h;have HEND:Hid (ReadPost RE RC w (.returned (.tuple #[.agg #[.slice none 0 0,.slice none 0 0,.slice none 0 0,.bool false,.int .u64 0,.int .u64 0],.int .i64 5])) (World.put6 w3 w1.heap.size (vvz))):=⟨vvz,by rw[HV.out.1]; rfl,HV.out.2.symm,HBR⟩
    unfold World.put6 at HEND HLV;simp only[ViewV.cells,vvz,IntsV.val,List.length_nil,Int.natCast_zero] at HEND HLV;clear gR hkR HBR;go_wp2;exact bodyPost_ret (ret_cell (p:=6) (u:=7) (x:=.int .i64 5) rfl rfl rfl HLV.out) rfl HEND.out
  obtain⟨N1,hN1⟩:∃ N1,pl.length=N1+1:=⟨pl.length-1,by omega⟩
  have hD:=HDA.out (by trivial) w3 (bQ1 HC.out hb3) (by omega);have h64:pl.length<=64:=by omega
  have HRN:Hid (readN ts ⟨⟨sa,sc,src⟩,wad,wcap,wh,group,⟨ka,kc,keys⟩,⟨ua,uc,sums⟩,⟨ea,ec,sel⟩,⟨da,dc,ord⟩⟩ pl=(readF ts ⟨⟨sa,sc,src⟩,wad,wcap,wh,group,⟨ka,kc,keys⟩,⟨ua,uc,sums⟩,⟨ea,ec,sel⟩,⟨da,dc,ord⟩⟩ pl pl.length N1 []).bind fun x=>if x.1.out=true/\x.2.length=pl.length/\sortedB ts ⟨⟨sa,sc,src⟩,wad,wcap,wh,group,⟨ka,kc,keys⟩,⟨ua,uc,sums⟩,⟨ea,ec,sel⟩,⟨da,dc,ord⟩⟩ pl=true then some x.1 else none):=by
   show _=_
   unfold readN;rw[if_neg hlen,show pl.length-1=N1 by omega]
  have hl1:¬ (pl.length:Int)<1:=by omega
  have hl2:¬ (64:Int)<(pl.length:Int):=by omega
  clear hlen;have d0:=cB hb3 g1_0;have d1:=cB hb3 g1_1;have d2:=cB hb3 g1_2;have d3:=cB hb3 g1_3;have d4:=cB hb3 g1_4;have d5:=cB hb3 g1_5;have d6:=cB hb3 g1_6;obtain⟨w4,hw4⟩:∃ x,w3.alloc (.cells #[.slice ao ts.length cap,.slice sa src.length sc,.slice wad wh.length wcap,.bool group,.slice ka keys.length kc,.slice ua sums.length uc,.slice ea sel.length ec,.slice da ord.length dc,.slice po pl.length pcap,.slice none 0 0] 114)=x:=⟨_,rfl⟩
  have k4:Below w3.heap.size w3 w4:=by rw[<- hw4]; exact bQ2 _ _
  have g4:GB w4 w3.heap.size 114 #[.slice ao ts.length cap,.slice sa src.length sc,.slice wad wh.length wcap,.bool group,.slice ka keys.length kc,.slice ua sums.length uc,.slice ea sel.length ec,.slice da ord.length dc,.slice po pl.length pcap,.slice none 0 0]:=by rw[<- hw4]; exact bQ3 _ _
  have hT4:TreeSt w4 w3.heap.size w3.heap.size 114 3 ao po cap pcap ts ⟨⟨sa,sc,src⟩,wad,wcap,wh,group,⟨ka,kc,keys⟩,⟨ua,uc,sums⟩,⟨ea,ec,sel⟩,⟨da,dc,ord⟩⟩ pl [] (.slice none 0 0):=⟨g4,World.ownsRow_nil _ _ _ _,Nat.le_refl _⟩
  have hVC:=view_all w3 w3.heap.size ao po cap pcap ts ⟨⟨sa,sc,src⟩,wad,wcap,wh,group,⟨ka,kc,keys⟩,⟨ua,uc,sums⟩,⟨ea,ec,sel⟩,⟨da,dc,ord⟩⟩ pl hD pl.length N1 w4 [] (.slice none 0 0) (by omega) (by omega) hT4 k4 List.nodup_nil (fun x hx=>by cases hx) (fun hx=>by cases hx);have HDD:Hid _:=hD;have hw4':w3.alloc (.cells #[.slice ao ts.length cap,.slice sa src.length sc,.slice wad wh.length wcap,.bool group,.slice ka keys.length kc,.slice ua sums.length uc,.slice ea sel.length ec,.slice da ord.length dc,.slice po (N1+1) pcap,.slice none 0 0] 114)=w4:=by rw[<- hN1]; exact hw4
  clear hw4;have HK4:Hid (Below w3.heap.size w3 w4):=k4;have hwr:IntKind.i64.wrap (N1:Int)=(N1:Int):=by simp[IntKind.wrap,IntKind.bits,IntKind.signed]; omega
  clear hD k4 g4 hT4 hb3 g1_0 g1_1 g1_2 g1_3 g1_4 g1_5 g1_6;have HN1:Hid _:=hN1;have HNI:Hid (∀ x,readF ts ⟨⟨sa,sc,src⟩,wad,wcap,wh,group,⟨ka,kc,keys⟩,⟨ua,uc,sums⟩,⟨ea,ec,sel⟩,⟨da,dc,ord⟩⟩ pl pl.length N1 []=some x->(pl.getD N1 nz).kind=9->group=false/\0<=(pl.getD N1 nz).l/\(pl.getD N1 nz).l<(pl.length:Int)/\∃ u s',readF ts ⟨⟨sa,sc,src⟩,wad,wcap,wh,group,⟨ka,kc,keys⟩,⟨ua,uc,sums⟩,⟨ea,ec,sel⟩,⟨da,dc,ord⟩⟩ pl pl.length (pl.getD N1 nz).l.toNat []=some (u,s')/\viewN ts ⟨⟨sa,sc,src⟩,wad,wcap,wh,group,⟨ka,kc,keys⟩,⟨ua,uc,sums⟩,⟨ea,ec,sel⟩,⟨da,dc,ord⟩⟩ pl (pl.getD N1 nz).l.toNat=some u):=fun x hr hk=>by
   have e:pl.length-1=N1:=by omega
   exact read_nine (q:=⟨⟨sa,sc,src⟩,wad,wcap,wh,group,⟨ka,kc,keys⟩,⟨ua,uc,sums⟩,⟨ea,ec,sel⟩,⟨da,dc,ord⟩⟩) (by omega) (by rw[e]; exact hr) (by rw[e]) hk
  cases hrf:readF ts ⟨⟨sa,sc,src⟩,wad,wcap,wh,group,⟨ka,kc,keys⟩,⟨ua,uc,sums⟩,⟨ea,ec,sel⟩,⟨da,dc,ord⟩⟩ pl pl.length N1 [] with
  | none =>
   rw[hrf] at hVC HRN;have HV:Hid (RE=5/\RC=0):=HE5.out (by rw[HRN.out]; rfl);clear HE5 HRN HRE HRC HNI;go_wp2_with fail;refine Calls.mono hVC ?_;rintro e w5 ⟨hkp,v,rfl⟩;have hb35:Below w3.heap.size w3 w5:=HK4.out.trans (hkp.below (Nat.le_trans HK4.out.size (Nat.le_refl _)) (fun x hx=>⟨Nat.ne_of_lt hx,fun e=>by cases e⟩));clear hVC hkp hw4' d0 d1 d2 d3 d4 d5 d6;obtain⟨⟨a1,c1,s1⟩,⟨a2,c2,s2⟩,⟨oa,ocp,ox⟩,vout,vsz,vct⟩:=v;obtain⟨w6,hw6⟩:∃ x,w5.alloc (.cells #[.slice a1 s1.length c1,.slice a2 s2.length c2,.slice oa ox.length ocp,.bool vout,.int .u64 (vsz:Int),.int .u64 (vct:Int)] 40)=x:=⟨_,rfl⟩
   have k6:Below w5.heap.size w5 w6:=by rw[<- hw6]; exact bQ2 _ _
   have g6:GB w6 w5.heap.size 40 #[.slice a1 s1.length c1,.slice a2 s2.length c2,.slice oa ox.length ocp,.bool vout,.int .u64 (vsz:Int),.int .u64 (vct:Int)]:=by rw[<- hw6]; exact bQ3 _ _
   have HB36:Hid (Below w3.heap.size w3 w6):=bQ1 hb35 k6;have HB26:Hid (Below w2.heap.size w2 w6):=bQ1 HB3.out HB36.out;clear k6 g6 hb35;simp only[ViewV.cells,IntsV.val];have gR:GB w6 w1.heap.size 40 #[.slice none 0 0,.slice none 0 0,.slice none 0 0,.bool false,.int .u64 0,.int .u64 0]:=HGR.out.of (HB26.out.block _ HGR.out.lt);have hkR:=World.put6_kept w6 w1.heap.size vvz;have HLV:Hid _:=loadView (World.put6_gb gR vvz);have HBR:Below w.heap.size w (World.put6 w6 w1.heap.size vvz):=(bQ1 HC.out HB26.out).trans (hkR.below (bQ1 HC.out HB26.out).size (fun b hb=>by have:=HW.out; omega));have x0:w6.cell? (aD w1.heap.size 0)=some (.slice none 0 0):=gR.cell 0;have y0:=gR.frozen 0;have x1:w6.cell? (aD w1.heap.size 1)=some (.slice none 0 0):=gR.cell 1;have y1:=gR.frozen 1;have x2:w6.cell? (aD w1.heap.size 2)=some (.slice none 0 0):=gR.cell 2;have y2:=gR.frozen 2;have x3:w6.cell? (aD w1.heap.size 3)=some (.bool false):=gR.cell 3;have y3:=gR.frozen 3;have x4:w6.cell? (aD w1.heap.size 4)=some (.int .u64 0):=gR.cell 4;have y4:=gR.frozen 4;have x5:w6.cell? (aD w1.heap.size 5)=some (.int .u64 0):=gR.cell 5;have y5:=gR.frozen 5;have HEND:Hid (ReadPost RE RC w (.returned (.tuple #[.agg #[.slice none 0 0,.slice none 0 0,.slice none 0 0,.bool false,.int .u64 0,.int .u64 0],.int .i64 5])) (World.put6 w6 w1.heap.size (vvz))):=⟨vvz,by rw[HV.out.1]; rfl,HV.out.2.symm,HBR⟩
   unfold World.put6 at HEND HLV;simp only[ViewV.cells,vvz,IntsV.val,List.length_nil,Int.natCast_zero] at HEND HLV;clear gR hkR HBR;go_wp2;exact bodyPost_ret (ret_cell (p:=6) (u:=7) (x:=.int .i64 5) rfl rfl rfl HLV.out) rfl HEND.out
  | some x =>
   obtain⟨vd,s'⟩:=x;have h9:=HNI.out _ hrf;rw[hrf] at hVC HRN;obtain⟨hgo,ho4⟩:=HCK.out (by trivial);clear HNI hrf;go_wp2_with fail;refine Calls.mono hVC ?_;rintro e w5 ⟨hkp,v,rfl,hvd,sv',hT5,-,-,-,-⟩;have hb35:Below w3.heap.size w3 w5:=HK4.out.trans (hkp.below (Nat.le_trans HK4.out.size (Nat.le_refl _)) (fun x hx=>⟨Nat.ne_of_lt hx,fun e=>by cases e⟩));clear hVC hkp hw4' d0 d1 d2 d3 d4 d5 d6;obtain⟨⟨a1,c1,s1⟩,⟨a2,c2,s2⟩,⟨oa,ocp,ox⟩,vout,vsz,vct⟩:=v;obtain⟨w6,hw6⟩:∃ x,w5.alloc (.cells #[.slice a1 s1.length c1,.slice a2 s2.length c2,.slice oa ox.length ocp,.bool vout,.int .u64 (vsz:Int),.int .u64 (vct:Int)] 40)=x:=⟨_,rfl⟩
   have k6:Below w5.heap.size w5 w6:=by rw[<- hw6]; exact bQ2 _ _
   have g6:GB w6 w5.heap.size 40 #[.slice a1 s1.length c1,.slice a2 s2.length c2,.slice oa ox.length ocp,.bool vout,.int .u64 (vsz:Int),.int .u64 (vct:Int)]:=by rw[<- hw6]; exact bQ3 _ _
   have HB36:Hid (Below w3.heap.size w3 w6):=bQ1 hb35 k6;have HB26:Hid (Below w2.heap.size w2 w6):=bQ1 HB3.out HB36.out;have hT6:=hT5.below k6;obtain⟨qa,qc,hsv⟩:∃ qa qc,sv' = .slice qa s'.length qc:=by
    rcases hT6.own.2 with⟨h,hn⟩ | ⟨g,c,cur,h,_⟩
    ·exact⟨none,0,by rw[h,hn]⟩
    ·exact⟨_,_,h⟩
   subst hsv;have t9:w6.cell? (aD w3.heap.size 9)=some (.slice qa s'.length qc):=hT6.g.cell 9;have p3:w6.cell? (aD w5.heap.size 3)=some (.bool vout):=g6.cell 3;have HG6:Hid (GB w6 w5.heap.size 40 #[.slice a1 s1.length c1,.slice a2 s2.length c2,.slice oa ox.length ocp,.bool vout,.int .u64 (vsz:Int),.int .u64 (vct:Int)]):=g6;have HVO:Hid (vd.out=vout/\vd.cost=vct):=by rw[<- hvd]; exact⟨rfl,rfl⟩
   have HT6:Hid _:=hT6;have HH9:Hid _:=h9;simp only[ViewV.cells,IntsV.val];clear k6 g6 hb35 hT5 hT6 hvd h9
   cases vout with
   | false =>
    have HV:Hid (RE=5/\RC=0):=HE5.out (by rw[HRN.out,Option.bind_some,if_neg (fun h=>by have:=h.1; rw[HVO.out.1] at this; cases this)]);have gR:GB w6 w1.heap.size 40 #[.slice none 0 0,.slice none 0 0,.slice none 0 0,.bool false,.int .u64 0,.int .u64 0]:=HGR.out.of (HB26.out.block _ HGR.out.lt);have hkR:=World.put6_kept w6 w1.heap.size vvz;have HLV:Hid _:=loadView (World.put6_gb gR vvz);have HBR:Below w.heap.size w (World.put6 w6 w1.heap.size vvz):=(bQ1 HC.out HB26.out).trans (hkR.below (bQ1 HC.out HB26.out).size (fun b hb=>by have:=HW.out; omega));have x0:w6.cell? (aD w1.heap.size 0)=some (.slice none 0 0):=gR.cell 0;have y0:=gR.frozen 0;have x1:w6.cell? (aD w1.heap.size 1)=some (.slice none 0 0):=gR.cell 1;have y1:=gR.frozen 1;have x2:w6.cell? (aD w1.heap.size 2)=some (.slice none 0 0):=gR.cell 2;have y2:=gR.frozen 2;have x3:w6.cell? (aD w1.heap.size 3)=some (.bool false):=gR.cell 3;have y3:=gR.frozen 3;have x4:w6.cell? (aD w1.heap.size 4)=some (.int .u64 0):=gR.cell 4;have y4:=gR.frozen 4;have x5:w6.cell? (aD w1.heap.size 5)=some (.int .u64 0):=gR.cell 5;have y5:=gR.frozen 5;have HEND:Hid (ReadPost RE RC w (.returned (.tuple #[.agg #[.slice none 0 0,.slice none 0 0,.slice none 0 0,.bool false,.int .u64 0,.int .u64 0],.int .i64 5])) (World.put6 w6 w1.heap.size (vvz))):=⟨vvz,by rw[HV.out.1]; rfl,HV.out.2.symm,HBR⟩
    unfold World.put6 at HEND HLV;simp only[ViewV.cells,vvz,IntsV.val,List.length_nil,Int.natCast_zero] at HEND HLV;clear gR hkR HBR;go_wp2;exact bodyPost_ret (ret_cell (p:=6) (u:=7) (x:=.int .i64 5) rfl rfl rfl HLV.out) rfl HEND.out
   | true =>
    by_cases hs:s'.length=pl.length
    ·have hs1:((s'.length:Int) != (N1:Int)+1)=false:=by rw[bne_eq_false_iff_eq]; omega
     have hs2:((s'.length:Int) != (pl.length:Int))=false:=by rw[bne_eq_false_iff_eq]; omega
     have hSO:=sorted_any w3 w3.heap.size ao po cap pcap ts ⟨⟨sa,sc,src⟩,wad,wcap,wh,group,⟨ka,kc,keys⟩,⟨ua,uc,sums⟩,⟨ea,ec,sel⟩,⟨da,dc,ord⟩⟩ pl HDD.out w6 s' (.slice qa s'.length qc) HT6.out HB36.out (by omega) ho4 (fun hk=>by
      rw[show pl.length-1=N1 by omega] at hk ⊢;obtain⟨h1,h2,h3,h4⟩:=HH9.out hk;exact⟨hgo h1,h2,h3,h4⟩)
     have HRB:Hid (readN ts ⟨⟨sa,sc,src⟩,wad,wcap,wh,group,⟨ka,kc,keys⟩,⟨ua,uc,sums⟩,⟨ea,ec,sel⟩,⟨da,dc,ord⟩⟩ pl=if sortedB ts ⟨⟨sa,sc,src⟩,wad,wcap,wh,group,⟨ka,kc,keys⟩,⟨ua,uc,sums⟩,⟨ea,ec,sel⟩,⟨da,dc,ord⟩⟩ pl=true then some vd else none):=by
      show _=_
      rw[HRN.out,Option.bind_some];by_cases hb:sortedB ts ⟨⟨sa,sc,src⟩,wad,wcap,wh,group,⟨ka,kc,keys⟩,⟨ua,uc,sums⟩,⟨ea,ec,sel⟩,⟨da,dc,ord⟩⟩ pl=true
      ·rw[if_pos ⟨HVO.out.1,hs,hb⟩,if_pos hb]
      ·rw[if_neg (fun h=>hb h.2.2),if_neg hb]
     have HPC:Hid (readN ts ⟨⟨sa,sc,src⟩,wad,wcap,wh,group,⟨ka,kc,keys⟩,⟨ua,uc,sums⟩,⟨ea,ec,sel⟩,⟨da,dc,ord⟩⟩ pl=some vd->RE=0/\RC=vct):=fun h=>⟨(HE0.out vd h).1,(HE0.out vd h).2.trans HVO.out.2⟩
     have hs':Hid _:=hs;clear hs hgo ho4 HH9 HT6 HDD HRN;generalize sortedB ts ⟨⟨sa,sc,src⟩,wad,wcap,wh,group,⟨ka,kc,keys⟩,⟨ua,uc,sums⟩,⟨ea,ec,sel⟩,⟨da,dc,ord⟩⟩ pl=SB at *;go_wp2_with fail;refine hSO.mono ?_;rintro e w7 ⟨rfl,hb7⟩;clear hSO hw6 t9 p3;have HB27:Hid (Below w2.heap.size w2 w7):=bQ1 HB26.out hb7;have g7:GB w7 w5.heap.size 40 #[.slice a1 s1.length c1,.slice a2 s2.length c2,.slice oa ox.length ocp,.bool true,.int .u64 (vsz:Int),.int .u64 (vct:Int)]:=HG6.out.of (hb7.block _ HG6.out.lt)
     cases SB with
     | false =>
      have HV:Hid (RE=5/\RC=0):=HE5.out (by rw[HRB.out]; rfl);clear g7 hb7 HPC;have gR:GB w7 w1.heap.size 40 #[.slice none 0 0,.slice none 0 0,.slice none 0 0,.bool false,.int .u64 0,.int .u64 0]:=HGR.out.of (HB27.out.block _ HGR.out.lt);have hkR:=World.put6_kept w7 w1.heap.size vvz;have HLV:Hid _:=loadView (World.put6_gb gR vvz);have HBR:Below w.heap.size w (World.put6 w7 w1.heap.size vvz):=(bQ1 HC.out HB27.out).trans (hkR.below (bQ1 HC.out HB27.out).size (fun b hb=>by have:=HW.out; omega));have x0:w7.cell? (aD w1.heap.size 0)=some (.slice none 0 0):=gR.cell 0;have y0:=gR.frozen 0;have x1:w7.cell? (aD w1.heap.size 1)=some (.slice none 0 0):=gR.cell 1;have y1:=gR.frozen 1;have x2:w7.cell? (aD w1.heap.size 2)=some (.slice none 0 0):=gR.cell 2;have y2:=gR.frozen 2;have x3:w7.cell? (aD w1.heap.size 3)=some (.bool false):=gR.cell 3;have y3:=gR.frozen 3;have x4:w7.cell? (aD w1.heap.size 4)=some (.int .u64 0):=gR.cell 4;have y4:=gR.frozen 4;have x5:w7.cell? (aD w1.heap.size 5)=some (.int .u64 0):=gR.cell 5;have y5:=gR.frozen 5;have HEND:Hid (ReadPost RE RC w (.returned (.tuple #[.agg #[.slice none 0 0,.slice none 0 0,.slice none 0 0,.bool false,.int .u64 0,.int .u64 0],.int .i64 5])) (World.put6 w7 w1.heap.size (vvz))):=⟨vvz,by rw[HV.out.1]; rfl,HV.out.2.symm,HBR⟩
      unfold World.put6 at HEND HLV;simp only[ViewV.cells,vvz,IntsV.val,List.length_nil,Int.natCast_zero] at HEND HLV;clear gR hkR HBR;go_wp2;exact bodyPost_ret (ret_cell (p:=6) (u:=7) (x:=.int .i64 5) rfl rfl rfl HLV.out) rfl HEND.out
     | true =>
      have HV:Hid (RE=0/\RC=vct):=HPC.out (by rw[HRB.out]; rfl);have r0:w7.cell? (aD w5.heap.size 0)=some (.slice a1 s1.length c1):=g7.cell 0;have r1:w7.cell? (aD w5.heap.size 1)=some (.slice a2 s2.length c2):=g7.cell 1;have r2:w7.cell? (aD w5.heap.size 2)=some (.slice oa ox.length ocp):=g7.cell 2;have r3:w7.cell? (aD w5.heap.size 3)=some (.bool true):=g7.cell 3;have r4:w7.cell? (aD w5.heap.size 4)=some (.int .u64 (vsz:Int)):=g7.cell 4;have r5:w7.cell? (aD w5.heap.size 5)=some (.int .u64 (vct:Int)):=g7.cell 5;clear g7 hb7 HPC;have gR:GB w7 w1.heap.size 40 #[.slice none 0 0,.slice none 0 0,.slice none 0 0,.bool false,.int .u64 0,.int .u64 0]:=HGR.out.of (HB27.out.block _ HGR.out.lt);have hkR:=World.put6_kept w7 w1.heap.size (ViewV.mk ⟨a1,c1,s1⟩ ⟨a2,c2,s2⟩ ⟨oa,ocp,ox⟩ true vsz vct);have HLV:Hid _:=loadView (World.put6_gb gR (ViewV.mk ⟨a1,c1,s1⟩ ⟨a2,c2,s2⟩ ⟨oa,ocp,ox⟩ true vsz vct));have HBR:Below w.heap.size w (World.put6 w7 w1.heap.size (ViewV.mk ⟨a1,c1,s1⟩ ⟨a2,c2,s2⟩ ⟨oa,ocp,ox⟩ true vsz vct)):=(bQ1 HC.out HB27.out).trans (hkR.below (bQ1 HC.out HB27.out).size (fun b hb=>by have:=HW.out; omega));have x0:w7.cell? (aD w1.heap.size 0)=some (.slice none 0 0):=gR.cell 0;have y0:=gR.frozen 0;have x1:w7.cell? (aD w1.heap.size 1)=some (.slice none 0 0):=gR.cell 1;have y1:=gR.frozen 1;have x2:w7.cell? (aD w1.heap.size 2)=some (.slice none 0 0):=gR.cell 2;have y2:=gR.frozen 2;have x3:w7.cell? (aD w1.heap.size 3)=some (.bool false):=gR.cell 3;have y3:=gR.frozen 3;have x4:w7.cell? (aD w1.heap.size 4)=some (.int .u64 0):=gR.cell 4;have y4:=gR.frozen 4;have x5:w7.cell? (aD w1.heap.size 5)=some (.int .u64 0):=gR.cell 5;have y5:=gR.frozen 5;have HEND:Hid (ReadPost RE RC w (.returned (.tuple #[.agg #[.slice a1 s1.length c1,.slice a2 s2.length c2,.slice oa ox.length ocp,.bool true,.int .u64 (vsz:Int),.int .u64 (vct:Int)],.int .i64 0])) (World.put6 w7 w1.heap.size (ViewV.mk ⟨a1,c1,s1⟩ ⟨a2,c2,s2⟩ ⟨oa,ocp,ox⟩ true vsz vct))):=⟨ViewV.mk ⟨a1,c1,s1⟩ ⟨a2,c2,s2⟩ ⟨oa,ocp,ox⟩ true vsz vct,by rw[HV.out.1]; rfl,HV.out.2.symm,HBR⟩
      unfold World.put6 at HEND HLV;simp only[ViewV.cells,vvz,IntsV.val,List.length_nil,Int.natCast_zero] at HEND HLV;clear gR hkR HBR;go_wp2;exact bodyPost_ret (ret_cell (p:=6) (u:=7) (x:=.int .i64 0) rfl rfl rfl HLV.out) rfl HEND.out
    ·have hs1:((s'.length:Int) != (N1:Int)+1)=true:=by rw[bne_iff_ne]; omega
     have hs2:((s'.length:Int) != (pl.length:Int))=true:=by rw[bne_iff_ne]; omega
     have HV:Hid (RE=5/\RC=0):=HE5.out (by rw[HRN.out,Option.bind_some,if_neg (fun h=>hs h.2.1)]);clear hs;have gR:GB w6 w1.heap.size 40 #[.slice none 0 0,.slice none 0 0,.slice none 0 0,.bool false,.int .u64 0,.int .u64 0]:=HGR.out.of (HB26.out.block _ HGR.out.lt);have hkR:=World.put6_kept w6 w1.heap.size vvz;have HLV:Hid _:=loadView (World.put6_gb gR vvz);have HBR:Below w.heap.size w (World.put6 w6 w1.heap.size vvz):=(bQ1 HC.out HB26.out).trans (hkR.below (bQ1 HC.out HB26.out).size (fun b hb=>by have:=HW.out; omega));have x0:w6.cell? (aD w1.heap.size 0)=some (.slice none 0 0):=gR.cell 0;have y0:=gR.frozen 0;have x1:w6.cell? (aD w1.heap.size 1)=some (.slice none 0 0):=gR.cell 1;have y1:=gR.frozen 1;have x2:w6.cell? (aD w1.heap.size 2)=some (.slice none 0 0):=gR.cell 2;have y2:=gR.frozen 2;have x3:w6.cell? (aD w1.heap.size 3)=some (.bool false):=gR.cell 3;have y3:=gR.frozen 3;have x4:w6.cell? (aD w1.heap.size 4)=some (.int .u64 0):=gR.cell 4;have y4:=gR.frozen 4;have x5:w6.cell? (aD w1.heap.size 5)=some (.int .u64 0):=gR.cell 5;have y5:=gR.frozen 5;have HEND:Hid (ReadPost RE RC w (.returned (.tuple #[.agg #[.slice none 0 0,.slice none 0 0,.slice none 0 0,.bool false,.int .u64 0,.int .u64 0],.int .i64 5])) (World.put6 w6 w1.heap.size (vvz))):=⟨vvz,by rw[HV.out.1]; rfl,HV.out.2.symm,HBR⟩
     unfold World.put6 at HEND HLV;simp only[ViewV.cells,vvz,IntsV.val,List.length_nil,Int.natCast_zero] at HEND HLV;clear gR hkR HBR;go_wp2;exact bodyPost_ret (ret_cell (p:=6) (u:=7) (x:=.int .i64 5) rfl rfl rfl HLV.out) rfl HEND.out
 ·have hzb:(CHK != 0)=true:=by rw[bne_iff_ne]; exact hz
  have HV:Hid (RE=CHK/\RC=0):=by show _/\_; rw[HRE.out,HRC.out,if_neg hz,if_neg hz]; exact⟨rfl,rfl⟩
  clear hz;have gR:GB w3 w1.heap.size 40 #[.slice none 0 0,.slice none 0 0,.slice none 0 0,.bool false,.int .u64 0,.int .u64 0]:=HGR.out.of (HB3.out.block _ HGR.out.lt);have hkR:=World.put6_kept w3 w1.heap.size vvz;have HLV:Hid _:=loadView (World.put6_gb gR vvz);have HBR:Below w.heap.size w (World.put6 w3 w1.heap.size vvz):=(bQ1 HC.out HB3.out).trans (hkR.below (bQ1 HC.out HB3.out).size (fun b hb=>by have:=HW.out; omega));have x0:w3.cell? (aD w1.heap.size 0)=some (.slice none 0 0):=gR.cell 0;have y0:=gR.frozen 0;have x1:w3.cell? (aD w1.heap.size 1)=some (.slice none 0 0):=gR.cell 1;have y1:=gR.frozen 1;have x2:w3.cell? (aD w1.heap.size 2)=some (.slice none 0 0):=gR.cell 2;have y2:=gR.frozen 2;have x3:w3.cell? (aD w1.heap.size 3)=some (.bool false):=gR.cell 3;have y3:=gR.frozen 3;have x4:w3.cell? (aD w1.heap.size 4)=some (.int .u64 0):=gR.cell 4;have y4:=gR.frozen 4;have x5:w3.cell? (aD w1.heap.size 5)=some (.int .u64 0):=gR.cell 5;have y5:=gR.frozen 5;have HEND:Hid (ReadPost RE RC w (.returned (.tuple #[.agg #[.slice none 0 0,.slice none 0 0,.slice none 0 0,.bool false,.int .u64 0,.int .u64 0],.int .i64 CHK])) (World.put6 w3 w1.heap.size (vvz))):=⟨vvz,by rw[HV.out.1]; rfl,HV.out.2.symm,HBR⟩
  unfold World.put6 at HEND HLV;simp only[ViewV.cells,vvz,IntsV.val,List.length_nil,Int.natCast_zero] at HEND HLV;clear gR hkR HBR;go_wp2;exact bodyPost_ret (ret_cell (p:=6) (u:=7) (x:=.int .i64 CHK) rfl rfl rfl HLV.out) rfl HEND.out
end Go.Proofs.YtlpbelhfpoilpaaGreatDoor
namespace Go.Scout
open Go.RowKit
structure SameQ (q q':QueryV):Prop where
 src:q'.src.xs=q.src.xs
 wl:q'.wh.length=q.wh.length
 wh:∀ i,(q'.wh.getD i lz).cs=(q.wh.getD i lz).cs
 group:q'.group=q.group
 keys:q'.keys.xs=q.keys.xs
 sel:q'.sel.xs=q.sel.xs
 ord:q'.ord.xs=q.ord.xs
theorem SameQ.rises {q q':QueryV} (h:SameQ q q') (ts:List TableD) (l:List Int) (s:Nat):risesB ts q' l s=risesB ts q l s:=by unfold risesB; simp only[h.src,h.wl,h.wh]
theorem SameQ.key {q q':QueryV} (h:SameQ q q') (ts:List TableD) (n:NodeV) (a b:Nat):keyP ts q' n a b=keyP ts q n a b:=by unfold keyP; simp only[h.src,h.wl,h.wh]
theorem SameQ.join {q q':QueryV} (h:SameQ q q') (ts:List TableD) (n:NodeV) (a b:Nat):joinP ts q' n a b=joinP ts q n a b:=by unfold joinP; rw[h.rises]
theorem SameQ.whole {q q':QueryV} (h:SameQ q q') (l:PartD):wholeP q' l=wholeP q l:=by unfold wholeP; simp only[h.src,h.wl]
theorem SameQ.fits {q q':QueryV} (h:SameQ q q') (ts:List TableD) (n:NodeV) (l r:PartD):fitsP ts q' n l r=fitsP ts q n l r:=by
 unfold fitsP;simp only[h.rises,h.key,h.join,h.whole,h.src,h.group,h.keys,h.ord]
theorem SameQ.size {q q':QueryV} (h:SameQ q q') (ts:List TableD) (s c:Nat):sizeP ts q' s c=sizeP ts q s c:=by unfold sizeP; simp only[h.src,h.wh]
theorem SameQ.part {q q':QueryV} (h:SameQ q q') (ts:List TableD) (n:NodeV) (l r:PartD):partP ts q' n l r=partP ts q n l r:=by unfold partP; simp only[h.size]
theorem SameQ.step {q q':QueryV} (h:SameQ q q') (ts:List TableD) (n:NodeV) (ps:List PartD):stepP ts q' n ps=stepP ts q n ps:=by unfold stepP; simp only[h.fits,h.part]
theorem SameQ.parts {q q':QueryV} (h:SameQ q q') (ts:List TableD) (pl:List NodeV):∀ k,partsP ts q' pl k=partsP ts q pl k
 | 0 => rfl
 | k+1 => by
  show (partsP ts q' pl k).bind _=(partsP ts q pl k).bind _
  rw[SameQ.parts h ts pl k];congr 1
  funext ps
  exact h.step ts _ ps
theorem SameQ.ends {q q':QueryV} (h:SameQ q q') (k:Int) (o:List Int):endsP q' k o=endsP q k o:=by unfold endsP wantN; simp only[h.ord,h.sel,h.keys]
theorem SameQ.look {q q':QueryV} (h:SameQ q q') (ts:List TableD) (pl:List NodeV):lookP ts q' pl=lookP ts q pl:=by unfold lookP; simp only[h.parts,h.ends]
def NodeV.canon (n:NodeV):NodeV:={ n with cl:=⟨none,0,n.cl.xs⟩,co:=⟨none,0,n.co.xs⟩ }
theorem canon_get (pl:List NodeV) (i:Nat):(pl.map NodeV.canon).getD i nz=(pl.getD i nz).canon:=map_getD NodeV.canon pl i nz
theorem canon_parts (ts:List TableD) (q:QueryV) (pl:List NodeV):∀ k,partsP ts q (pl.map NodeV.canon) k=partsP ts q pl k
 | 0 => rfl
 | k+1 => by
  show (partsP ts q (pl.map NodeV.canon) k).bind _=(partsP ts q pl k).bind _
  rw[canon_parts ts q pl k,canon_get];rfl
theorem canon_inp (pl:List NodeV) (i:Nat):inpN (pl.map NodeV.canon) i=inpN pl i:=by
 unfold inpN;rw[canon_get];rfl
theorem canon_plan (pl:List NodeV):isPlanP (pl.map NodeV.canon)=isPlanP pl:=by
 unfold isPlanP onceB;simp only[List.length_map,canon_get,canon_inp];rfl
theorem canon_look (ts:List TableD) (q:QueryV) (pl:List NodeV):lookP ts q (pl.map NodeV.canon)=lookP ts q pl:=by
 unfold lookP;simp only[canon_plan,List.length_map,canon_parts,canon_get];rfl
theorem canon_same {a b:NodeV} (h:a.same b):a.canon=b.canon:=by
 obtain⟨h1,h2,h3,h4,h5,h6,h7⟩:=h;unfold NodeV.canon;rw[h1,h2,h3,h4,h5,h6,h7]
theorem look_nodes (ts:List TableD) (q:QueryV) {pl ns:List NodeV} (hl:ns.length=pl.length) (h:∀ i,i<pl.length->(ns.getD i nz).same (pl.getD i nz)):lookP ts q ns=lookP ts q pl:=by
 rw[<- canon_look ts q ns,<- canon_look ts q pl];congr 1;apply List.ext_getElem
 ·simp[hl]
 ·intro i h1 h2;have hi:i<pl.length:=by simpa using h2
  have hi':i<ns.length:=by omega
  have:=canon_same (h i hi)
  simpa [List.getD,hi,hi'] using this
theorem fair_read (ts:List TableD) (q:QueryV) (pl:List NodeV):fairN ts q pl=readE ts q pl/\costOfN ts q pl=readC ts q pl:=by
 unfold fairN readE costOfN readC;by_cases h0:q.check ts=0
 ·rw[if_pos h0,if_pos h0,if_pos h0,if_pos h0];rcases look_same (chk_of h0).1.ok pl with⟨h1,h2⟩ | ⟨ps,v,h1,h2,h3,h4,_,h6⟩
  ·rw[h1,h2]; exact⟨rfl,rfl⟩
  ·rw[h1,h2];refine⟨rfl,?_⟩
   show (ps.getD (ps.length-1) pz).cost=v.cost
   rw[h4];exact h6
 ·rw[if_neg h0,if_neg h0,if_neg h0,if_neg h0];exact⟨rfl,rfl⟩
end Go.Scout
