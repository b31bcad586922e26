import Derived.Test.YtlpbelhfpoilpaaGreatDoorProg
import Derived.ProofKit
import Derived.OpenShut
import Derived.Deep.Slices
import Derived.SizedLaws
import Derived.Test.YtlpbelhfpoilpaaGreatDoorC01
import Derived.Test.YtlpbelhfpoilpaaGreatDoorC02
import Derived.Test.YtlpbelhfpoilpaaGreatDoorC36
import Derived.Test.YtlpbelhfpoilpaaGreatDoorC37
set_option linter.all false
set_option maxRecDepth 100000
set_option maxHeartbeats 16000000
namespace Go.Proofs.YtlpbelhfpoilpaaGreatDoor
open Go.RowKit Go.Scout
theorem wholeP_true (w0 w:World) (G:Nat) (ao d po:Option Addr) (cap dcap pcap:Nat) (ts:List TableD) (q:QueryV) (db db':List RowsV) (pl ns:List NodeV) (bc bf bk bu be bo bw bp bd:Nat) (v vr u1 u2:Value) (A:Nat->Nat) (k1 k2 s1 s2:Nat) (x1' x2':Value)
  (h:GivP w0 w G 35 140 138 137 3 95 58 47 23 ts q db db' pl ns bc bf bk bu be bo bw bp bd v vr u1 u2 A k1 k2 s1 s2 x1' x2') (hx:TablesAt w ao ts) (hq:q.At w) (hd:DbAt w d db) (hp:NodesAt w po pl) :
  Calls Tryz.prog 15 #[.pointer (some (aD G 0)),.slice ao ts.length cap,.agg q.cells,.slice po pl.length pcap,.slice d db.length dcap] w fun e w'=>e=.returned (.bool true)/\Below w.heap.size w w':=by
 have hts:=hx.1;obtain⟨w1,hw1⟩:∃ x,x=w.alloc (.cells q.cells 26):=⟨_,rfl⟩
 have hk1:Below w.heap.size w w1:=by rw[hw1]; exact bQ2 _ _
 have hbox:GB w1 w.heap.size 26 q.cells:=by rw[hw1]; exact bQ3 _ _
 have H:=h.below hk1;have hX:TablesAt w1 ao ts:=hx.below hk1;have hQ:q.At w1:=hq.below hk1;have hT:TablesAt w1 (some (aD bc 0)) ts:=tabsAt H.cat hts;have hLQ:(lentQ q bf bk bu be bo bw A).At w1:=GivP_query H hq;have hBH:=fun x (hb:Below w1.heap.size w1 x)=>behindP_true w0 x G ts q db db' pl ns bc bf bk bu be bo bw bp bd v vr u1 u2 A k1 k2 s1 s2 x1' x2' (H.below hb) hp.1 hd.1 (fun i hi=>(hd.2.2 i hi).1) hts hq.wh.1 (fun i hi=>(hq.wh.2.2 i hi).1)
 have HDX:Hid (DbAt w1 d db):=hd.below hk1;have HDH:Hid (DbAt w1 (some (aD bd 0)) db'):=(H.had hd).1;have HSM:Hid _:=H.same;have HLN:Hid _:=H.len;have HTB:Hid (∀ i,i<db.length->∀ j,j<(db.getD i rz).rs.length->∃ B,(db'.getD i rz).rs.getD j iz=⟨some (aD B 0),((db.getD i rz).rs.getD j iz).xs.length+2,((db.getD i rz).rs.getD j iz).xs⟩/\GB w1 B 3 (lentCells ((db.getD i rz).rs.getD j iz).xs)):=fun i hi j hj=>by
  obtain⟨T,a,b,ht⟩:=H.tab i (by have:=H.len; omega);obtain⟨B,e,_,hB⟩:=ht.rows j hj;exact⟨B,e,hB⟩
 have hdl:=hd.1;have hSW:=fun x (hb:Below w1.heap.size w1 x)=>sameWhere_true (some (aD bw 0)) q.wad (q.wh.length+2) q.wcap (lentLs q.wh A) q.wh x (hLQ.wh.below hb) (hQ.wh.below hb) (lentLs_len _ _) (fun i hi=>by rw[lentLs_len] at hi; rw[lentLs_at _ _ hi])
 have hL1:=fun x (hb:Below w1.heap.size w1 x)=>lent_true bf q.src.ad q.src.cap q.src.xs x (H.src.of (hb.block _ H.src.lt)) (IntsAt.below hb hQ.src)
 have hL2:=fun x (hb:Below w1.heap.size w1 x)=>lent_true bk q.keys.ad q.keys.cap q.keys.xs x (H.keys.of (hb.block _ H.keys.lt)) (IntsAt.below hb hQ.keys)
 have hL3:=fun x (hb:Below w1.heap.size w1 x)=>lent_true bu q.sums.ad q.sums.cap q.sums.xs x (H.sums.of (hb.block _ H.sums.lt)) (IntsAt.below hb hQ.sums)
 have hL4:=fun x (hb:Below w1.heap.size w1 x)=>lent_true be q.sel.ad q.sel.cap q.sel.xs x (H.sel.of (hb.block _ H.sel.lt)) (IntsAt.below hb hQ.sel)
 have hL5:=fun x (hb:Below w1.heap.size w1 x)=>lent_true bo q.ord.ad q.ord.cap q.ord.xs x (H.ord.of (hb.block _ H.ord.lt)) (IntsAt.below hb hQ.ord)
 have hNX:NodesAt w1 po pl:=hp.below hk1;have hNL:=H.plan.nodes hp;have hnl:(ns.take pl.length).length=pl.length:=by rw[List.length_take,H.plan.len]; omega
 have hSP:=fun x (hb:Below w1.heap.size w1 x)=>samePlan_true (some (aD bp 0)) po (pl.length+2) pcap (ns.take pl.length) pl x (hNL.below hb) (hNX.below hb) hnl (fun i hi=>H.plan.same i (by rw[hnl] at hi; exact hi))
 rw[hnl] at hSP;have HPB:Hid (∀ i,i<pl.length->∃ P Q,w1.cell? (aD bp (i*7+4))=some (.slice (some (aD P 0)) (pl.getD i nz).cl.xs.length ((pl.getD i nz).cl.xs.length+2))/\w1.cell? (aD bp (i*7+6))=some (.slice (some (aD Q 0)) (pl.getD i nz).co.xs.length ((pl.getD i nz).co.xs.length+2))/\
   GB w1 P 3 (lentCells (pl.getD i nz).cl.xs)/\GB w1 Q 3 (lentCells (pl.getD i nz).co.xs)):=fun i hi=>by
  obtain⟨c,hc,hn⟩:=H.plan.blk;obtain⟨P,Q,e,_,_,hP,hQ'⟩:=H.plan.lent i hi;obtain⟨_,_,_,_,a4,_,a6⟩:=hn.at hc (show i<ns.length by rw[H.plan.len]; omega);rw[e] at a4 a6;exact⟨P,Q,a4,a6,hP,hQ'⟩
 have HNX:Hid _:=hNX;have hpl:=hp.1;clear hNL hNX hnl hp;rw[lentLs_len] at hSW;have g0:w1.cell? (aD G 0)=some (.slice (some (aD bc 0)) ts.length (ts.length+2)):=H.g.cell 0;have g1:w1.cell? (aD G 1)=some (.slice (some (aD bf 0)) q.src.xs.length (q.src.xs.length+2)):=H.g.cell 1;have g2:w1.cell? (aD G 2)=some (.slice (some (aD bw 0)) q.wh.length (q.wh.length+2)):=H.g.cell 2;have g4:w1.cell? (aD G 4)=some (.slice (some (aD bk 0)) q.keys.xs.length (q.keys.xs.length+2)):=H.g.cell 4;have g5:w1.cell? (aD G 5)=some (.slice (some (aD bu 0)) q.sums.xs.length (q.sums.xs.length+2)):=H.g.cell 5;have g6:w1.cell? (aD G 6)=some (.slice (some (aD be 0)) q.sel.xs.length (q.sel.xs.length+2)):=H.g.cell 6;have g7:w1.cell? (aD G 7)=some (.slice (some (aD bo 0)) q.ord.xs.length (q.ord.xs.length+2)):=H.g.cell 7;have g8:w1.cell? (aD G 8)=some (.slice (some (aD bp 0)) pl.length (pl.length+2)):=H.g.cell 8;have g9:w1.cell? (aD G 9)=some (.slice (some (aD bd 0)) db.length (db.length+2)):=H.g.cell 9;clear H h hLQ hQ hq hx hd;have hdne:((db.length:Int) != (db.length:Int))=false:=by simp
 obtain⟨⟨sa,sc,src⟩,wad,wcap,wh,group,⟨ka,kc,keys⟩,⟨ua,uc,sums⟩,⟨ea,ec,sel⟩,⟨oa,oc,ord⟩⟩:=q;unfold QueryV.cells IntsV.val at *;simp only at *;have x0:w1.cell? (aD w.heap.size 0)=some (.slice sa src.length sc):=hbox.cell 0;have x1:w1.cell? (aD w.heap.size 1)=some (.slice wad wh.length wcap):=hbox.cell 1;have x3:w1.cell? (aD w.heap.size 3)=some (.slice ka keys.length kc):=hbox.cell 3;have x4:w1.cell? (aD w.heap.size 4)=some (.slice ua sums.length uc):=hbox.cell 4;have x5:w1.cell? (aD w.heap.size 5)=some (.slice ea sel.length ec):=hbox.cell 5;have x6:w1.cell? (aD w.heap.size 6)=some (.slice oa ord.length oc):=hbox.cell 6;have HBW:Hid (Below w1.heap.size w1 (w.alloc (.cells #[.slice sa src.length sc,.slice wad wh.length wcap,.bool group,.slice ka keys.length kc,.slice ua sums.length uc,.slice ea sel.length ec,.slice oa ord.length oc] 26))):=show Below _ _ _ by rw[hw1]; exact Below.refl _ _
 have HK1:Hid (Below w.heap.size w w1):=hk1;clear hw1 hbox hk1;have heq:∀ (a b c e:Int) (x:World),(Op.equalIn 9999 93 (.agg #[.int .i64 a,.int .i64 b,.int .i64 c,.int .i64 e]) (.agg #[.int .i64 a,.int .i64 b,.int .i64 c,.int .i64 e])).run Tryz.prog x=.ok true x:=fun a b c e x=>eqArr4 9997 a b c e x
 go_enter Tryz.func15,Tryz.ntmps15;go_wp2;go_loopw [11] (fun i wr=>∃ k:Nat,k<=ts.length/\i=.int .i64 k/\Below w1.heap.size w1 wr) (fun i _=>ts.length-(intOf i).toNat)
 case atStart=>exact⟨0,Nat.zero_le _,rfl,HBW.out⟩
 case round=>
  clear HBW;obtain⟨k,hk,rfl,hbr⟩:=hrel;by_cases hlt:k<ts.length
  ·obtain⟨b,off,rfl,c0,c1,c2,c3,c4,c5⟩:=hX.2 k hlt;obtain⟨b',off',he',d0,d1,d2,d3,d4,d5⟩:=hT.2 k hlt
   cases he'
   generalize ts.getD k tz=t at *;have m0:=cB hbr c0;have m1:=cB hbr c1;have m2:=cB hbr c2;have m3:=cB hbr c3;have m4:=cB hbr c4;have m5:=cB hbr c5;have n0:=cB hbr d0;have n1:=cB hbr d1;have n2:=cB hbr d2;have n3:=cB hbr d3;have n4:=cB hbr d4;have n5:=cB hbr d5;have gg:=cB hbr g0;simp only[Nat.zero_add] at n0 n1 n2 n3 n4 n5;clear c0 c1 c2 c3 c4 c5 d0 d1 d2 d3 d4 d5 hX hT hBH hSW hL1 hL2 hL3 hL4 hL5 hSP;go_wp2;go_quiet (fail);go_wp2;go_roundw
   case rel=>exact⟨k+1,by omega,by go_num,below_drewN hbr _⟩
   case measure=>simp[intOf]; omega
  ·clear hX hT heq;go_wp2;refine wp_region_below (by kernel_rfl) (by kernel_rfl) ?_;go_big_quiet_want;refine⟨.pointer (some (aD G 0)),fun x hx=>?_,?_⟩
   ·go_simp
   simp only[pA,sB,sC];go_big_quiet_on;go_big_quiet_want;refine⟨.pointer (some (aD G 0)),fun x hx=>?_,?_⟩
   ·go_simp
   simp only[pA,sB,sC];go_big_quiet_on;go_big_quiet_want;refine⟨.pointer (some (aD G 1)),fun x hx=>?_,?_⟩
   ·go_simp
   simp only[pA,sB,sC];go_big_quiet_on;go_big_quiet_want;refine⟨.pointer (some (aD G 2)),fun x hx=>?_,?_⟩
   ·go_simp
   simp only[pA,sB,sC];go_big_quiet_on;go_big_quiet_want;refine⟨.slice (some (aD bw 0)) wh.length (wh.length+2),fun x hx=>?_,?_⟩
   ·have e:=cB (bQ1 hbr hx) g2;go_simp
   simp only[pA,sB,sC];go_big_quiet_on;go_big_quiet_want;refine⟨.pointer (some (aD w.heap.size 1)),fun x hx=>?_,?_⟩
   ·go_simp
   simp only[pA,sB,sC];go_big_quiet_on;go_big_quiet_want;refine⟨.slice wad wh.length wcap,fun x hx=>?_,?_⟩
   ·have e:=cB (bQ1 hbr hx) x1;go_simp
   simp only[pA,sB,sC];go_big_quiet_on;go_big_quiet_want;refine⟨.bool true,fun x hx=>?_,?_⟩
   ·have hC:=Calls.within hx (hSW x (bQ1 hbr hx));go_simp
   simp only[pA,sB,sC];go_big_quiet_on;go_big_quiet_want;refine⟨.bool true,fun x hx=>?_,?_⟩
   ·go_simp
   simp only[pA,sB,sC];go_big_quiet_on;refine wpQuiet_nil ?_;intro wa hbwa;have ka1:=bQ1 hbr hbwa;clear hbwa hbr;go_wp2;refine wp_region_below (by kernel_rfl) (by kernel_rfl) ?_;go_big_quiet_want;refine⟨.pointer (some (aD G 0)),fun x hx=>?_,?_⟩
   ·go_simp
   simp only[pA,sB,sC];go_big_quiet_on;go_big_quiet_want;refine⟨.pointer (some (aD G 0)),fun x hx=>?_,?_⟩
   ·go_simp
   simp only[pA,sB,sC];go_big_quiet_on;go_big_quiet_want;refine⟨.pointer (some (aD G 1)),fun x hx=>?_,?_⟩
   ·go_simp
   simp only[pA,sB,sC];go_big_quiet_on;go_big_quiet_want;refine⟨.pointer (some (aD G 1)),fun x hx=>?_,?_⟩
   ·go_simp
   simp only[pA,sB,sC];go_big_quiet_on;go_big_quiet_want;refine⟨.slice (some (aD bf 0)) src.length (src.length+2),fun x hx=>?_,?_⟩
   ·have e:=cB (bQ1 ka1 hx) g1;go_simp
   simp only[pA,sB,sC];go_big_quiet_on;go_big_quiet_want;refine⟨.pointer (some (aD w.heap.size 0)),fun x hx=>?_,?_⟩
   ·go_simp
   simp only[pA,sB,sC];go_big_quiet_on;go_big_quiet_want;refine⟨.slice sa src.length sc,fun x hx=>?_,?_⟩
   ·have e:=cB (bQ1 ka1 hx) x0;go_simp
   simp only[pA,sB,sC];go_big_quiet_on;go_big_quiet_want;refine⟨.bool true,fun x hx=>?_,?_⟩
   ·have hC:=Calls.within hx (hL1 x (bQ1 ka1 hx));go_simp
   simp only[pA,sB,sC];go_big_quiet_on;go_big_quiet_want;refine⟨.bool true,fun x hx=>?_,?_⟩
   ·go_simp
   simp only[pA,sB,sC];go_big_quiet_on;refine wpQuiet_nil ?_;intro wb hbwb;have kb1:=bQ1 ka1 hbwb;clear hbwb ka1;go_wp2;refine wp_region_below (by kernel_rfl) (by kernel_rfl) ?_;go_big_quiet_want;refine⟨.pointer (some (aD G 0)),fun x hx=>?_,?_⟩
   ·go_simp
   simp only[pA,sB,sC];go_big_quiet_on;go_big_quiet_want;refine⟨.pointer (some (aD G 0)),fun x hx=>?_,?_⟩
   ·go_simp
   simp only[pA,sB,sC];go_big_quiet_on;go_big_quiet_want;refine⟨.pointer (some (aD G 1)),fun x hx=>?_,?_⟩
   ·go_simp
   simp only[pA,sB,sC];go_big_quiet_on;go_big_quiet_want;refine⟨.pointer (some (aD G 4)),fun x hx=>?_,?_⟩
   ·go_simp
   simp only[pA,sB,sC];go_big_quiet_on;go_big_quiet_want;refine⟨.slice (some (aD bk 0)) keys.length (keys.length+2),fun x hx=>?_,?_⟩
   ·have e:=cB (bQ1 kb1 hx) g4;go_simp
   simp only[pA,sB,sC];go_big_quiet_on;go_big_quiet_want;refine⟨.pointer (some (aD w.heap.size 3)),fun x hx=>?_,?_⟩
   ·go_simp
   simp only[pA,sB,sC];go_big_quiet_on;go_big_quiet_want;refine⟨.slice ka keys.length kc,fun x hx=>?_,?_⟩
   ·have e:=cB (bQ1 kb1 hx) x3;go_simp
   simp only[pA,sB,sC];go_big_quiet_on;go_big_quiet_want;refine⟨.bool true,fun x hx=>?_,?_⟩
   ·have hC:=Calls.within hx (hL2 x (bQ1 kb1 hx));go_simp
   simp only[pA,sB,sC];go_big_quiet_on;go_big_quiet_want;refine⟨.bool true,fun x hx=>?_,?_⟩
   ·go_simp
   simp only[pA,sB,sC];go_big_quiet_on;refine wpQuiet_nil ?_;intro wc hbwc;have kc1:=bQ1 kb1 hbwc;clear hbwc kb1;go_wp2;refine wp_region_below (by kernel_rfl) (by kernel_rfl) ?_;go_big_quiet_want;refine⟨.pointer (some (aD G 0)),fun x hx=>?_,?_⟩
   ·go_simp
   simp only[pA,sB,sC];go_big_quiet_on;go_big_quiet_want;refine⟨.pointer (some (aD G 0)),fun x hx=>?_,?_⟩
   ·go_simp
   simp only[pA,sB,sC];go_big_quiet_on;go_big_quiet_want;refine⟨.pointer (some (aD G 1)),fun x hx=>?_,?_⟩
   ·go_simp
   simp only[pA,sB,sC];go_big_quiet_on;go_big_quiet_want;refine⟨.pointer (some (aD G 5)),fun x hx=>?_,?_⟩
   ·go_simp
   simp only[pA,sB,sC];go_big_quiet_on;go_big_quiet_want;refine⟨.slice (some (aD bu 0)) sums.length (sums.length+2),fun x hx=>?_,?_⟩
   ·have e:=cB (bQ1 kc1 hx) g5;go_simp
   simp only[pA,sB,sC];go_big_quiet_on;go_big_quiet_want;refine⟨.pointer (some (aD w.heap.size 4)),fun x hx=>?_,?_⟩
   ·go_simp
   simp only[pA,sB,sC];go_big_quiet_on;go_big_quiet_want;refine⟨.slice ua sums.length uc,fun x hx=>?_,?_⟩
   ·have e:=cB (bQ1 kc1 hx) x4;go_simp
   simp only[pA,sB,sC];go_big_quiet_on;go_big_quiet_want;refine⟨.bool true,fun x hx=>?_,?_⟩
   ·have hC:=Calls.within hx (hL3 x (bQ1 kc1 hx));go_simp
   simp only[pA,sB,sC];go_big_quiet_on;go_big_quiet_want;refine⟨.bool true,fun x hx=>?_,?_⟩
   ·go_simp
   simp only[pA,sB,sC];go_big_quiet_on;refine wpQuiet_nil ?_;intro wd hbwd;have kd1:=bQ1 kc1 hbwd;clear hbwd kc1;go_wp2;refine wp_region_below (by kernel_rfl) (by kernel_rfl) ?_;go_big_quiet_want;refine⟨.pointer (some (aD G 0)),fun x hx=>?_,?_⟩
   ·go_simp
   simp only[pA,sB,sC];go_big_quiet_on;go_big_quiet_want;refine⟨.pointer (some (aD G 0)),fun x hx=>?_,?_⟩
   ·go_simp
   simp only[pA,sB,sC];go_big_quiet_on;go_big_quiet_want;refine⟨.pointer (some (aD G 1)),fun x hx=>?_,?_⟩
   ·go_simp
   simp only[pA,sB,sC];go_big_quiet_on;go_big_quiet_want;refine⟨.pointer (some (aD G 6)),fun x hx=>?_,?_⟩
   ·go_simp
   simp only[pA,sB,sC];go_big_quiet_on;go_big_quiet_want;refine⟨.slice (some (aD be 0)) sel.length (sel.length+2),fun x hx=>?_,?_⟩
   ·have e:=cB (bQ1 kd1 hx) g6;go_simp
   simp only[pA,sB,sC];go_big_quiet_on;go_big_quiet_want;refine⟨.pointer (some (aD w.heap.size 5)),fun x hx=>?_,?_⟩
   ·go_simp
   simp only[pA,sB,sC];go_big_quiet_on;go_big_quiet_want;refine⟨.slice ea sel.length ec,fun x hx=>?_,?_⟩
   ·have e:=cB (bQ1 kd1 hx) x5;go_simp
   simp only[pA,sB,sC];go_big_quiet_on;go_big_quiet_want;refine⟨.bool true,fun x hx=>?_,?_⟩
   ·have hC:=Calls.within hx (hL4 x (bQ1 kd1 hx));go_simp
   simp only[pA,sB,sC];go_big_quiet_on;go_big_quiet_want;refine⟨.bool true,fun x hx=>?_,?_⟩
   ·go_simp
   simp only[pA,sB,sC];go_big_quiet_on;refine wpQuiet_nil ?_;intro we hbwe;have ke1:=bQ1 kd1 hbwe;clear hbwe kd1;go_wp2;refine wp_region_below (by kernel_rfl) (by kernel_rfl) ?_;go_big_quiet_want;refine⟨.pointer (some (aD G 0)),fun x hx=>?_,?_⟩
   ·go_simp
   simp only[pA,sB,sC];go_big_quiet_on;go_big_quiet_want;refine⟨.pointer (some (aD G 0)),fun x hx=>?_,?_⟩
   ·go_simp
   simp only[pA,sB,sC];go_big_quiet_on;go_big_quiet_want;refine⟨.pointer (some (aD G 1)),fun x hx=>?_,?_⟩
   ·go_simp
   simp only[pA,sB,sC];go_big_quiet_on;go_big_quiet_want;refine⟨.pointer (some (aD G 7)),fun x hx=>?_,?_⟩
   ·go_simp
   simp only[pA,sB,sC];go_big_quiet_on;go_big_quiet_want;refine⟨.slice (some (aD bo 0)) ord.length (ord.length+2),fun x hx=>?_,?_⟩
   ·have e:=cB (bQ1 ke1 hx) g7;go_simp
   simp only[pA,sB,sC];go_big_quiet_on;go_big_quiet_want;refine⟨.pointer (some (aD w.heap.size 6)),fun x hx=>?_,?_⟩
   ·go_simp
   simp only[pA,sB,sC];go_big_quiet_on;go_big_quiet_want;refine⟨.slice oa ord.length oc,fun x hx=>?_,?_⟩
   ·have e:=cB (bQ1 ke1 hx) x6;go_simp
   simp only[pA,sB,sC];go_big_quiet_on;go_big_quiet_want;refine⟨.bool true,fun x hx=>?_,?_⟩
   ·have hC:=Calls.within hx (hL5 x (bQ1 ke1 hx));go_simp
   simp only[pA,sB,sC];go_big_quiet_on;go_big_quiet_want;refine⟨.bool true,fun x hx=>?_,?_⟩
   ·go_simp
   simp only[pA,sB,sC];go_big_quiet_on;refine wpQuiet_nil ?_;intro wf hbwf;have kf1:=bQ1 ke1 hbwf;clear hbwf ke1;have e8:=cB kf1 g8;clear hSW hL1 hL2 hL3 hL4 hL5 g0 g1 g2 g4 g5 g6 g7 x0 x1 x3 x4 x5 x6;go_wp2_with fail;refine (hSP _ kf1).mono ?_;rintro e wg ⟨rfl,hbg⟩;have kg:=bQ1 kf1 hbg;clear hSP e8 hbg kf1;go_wp2_with fail;refine (hBH _ kg).mono ?_;rintro e wh9 ⟨rfl,hbh⟩;have kh:=bQ1 kg hbh;have e9:=cB kh g9;clear hBH hbh kg;go_wp2;go_loopw [20] (fun iv wr2=>∃ i:Nat,i<=pl.length/\iv=.int .i64 i/\Below w1.heap.size w1 wr2) (fun iv _=>pl.length-(intOf iv).toNat)
   case atStart=>exact⟨0,Nat.zero_le _,rfl,kh⟩
   case round=>
   obtain⟨i,hil,rfl,hbr2⟩:=hrel;clear e9 kh;by_cases hit:i<pl.length
   ·obtain⟨xb,xo,rfl,_,_,_,_,n4,_,n6,hcl,hco⟩:=HNX.out.2 i hit;obtain⟨P,Q,l4,l6,hP,hQ⟩:=HPB.out i hit;generalize pl.getD i nz=n at *;obtain⟨kind,nl,nr,source,⟨ca,cc,cx⟩,key,⟨oa',oc',ox⟩⟩:=n;simp only at n4 n6 l4 l6 hP hQ hcl hco;have hE4:=fun x (hb:Below w1.heap.size w1 x)=>lent_true P ca cc cx x (hP.of (hb.block _ hP.lt)) (IntsAt.below hb hcl)
    have hE6:=fun x (hb:Below w1.heap.size w1 x)=>lent_true Q oa' oc' ox x (hQ.of (hb.block _ hQ.lt)) (IntsAt.below hb hco)
    clear hcl hco hP hQ;go_wp2;refine wp_region_below (by kernel_rfl) (by kernel_rfl) ?_;go_big_quiet_want;refine⟨.pointer (some (aD G 0)),fun x hx=>?_,?_⟩
    ·go_simp
    simp only[pA,sB,sC];go_big_quiet_on;go_big_quiet_want;refine⟨.pointer (some (aD G 0)),fun x hx=>?_,?_⟩
    ·go_simp
    simp only[pA,sB,sC];go_big_quiet_on;go_big_quiet_want;refine⟨.pointer (some (aD G 8)),fun x hx=>?_,?_⟩
    ·go_simp
    simp only[pA,sB,sC];go_big_quiet_on;go_big_quiet_want;refine⟨.slice (some (aD bp 0)) pl.length (pl.length+2),fun x hx=>?_,?_⟩
    ·have e:=cB (bQ1 hbr2 hx) g8;go_simp
    simp only[pA,sB,sC];go_big_quiet_on;go_big_quiet_want;refine⟨.int .i64 i,fun x hx=>?_,?_⟩
    ·go_simp
    simp only[pA,sB,sC];go_big_quiet_on;go_big_quiet_want;refine⟨.pointer (some (aD bp (i*7))),fun x hx=>?_,?_⟩
    ·go_simp
    simp only[pA,sB,sC];go_big_quiet_on;go_big_quiet_want;refine⟨.pointer (some (aD bp (i*7+4))),fun x hx=>?_,?_⟩
    ·go_simp
    simp only[pA,sB,sC];go_big_quiet_on;go_big_quiet_want;refine⟨.slice (some (aD P 0)) cx.length (cx.length+2),fun x hx=>?_,?_⟩
    ·have e:=cB (bQ1 hbr2 hx) l4;go_simp
    simp only[pA,sB,sC];go_big_quiet_on;go_big_quiet_want;refine⟨.slice (some (aD xb xo)) pl.length pcap,fun x hx=>?_,?_⟩
    ·go_simp
    simp only[pA,sB,sC];go_big_quiet_on;go_big_quiet_want;refine⟨.int .i64 i,fun x hx=>?_,?_⟩
    ·go_simp
    simp only[pA,sB,sC];go_big_quiet_on;go_big_quiet_want;refine⟨.pointer (some (aD xb (xo+i*7))),fun x hx=>?_,?_⟩
    ·go_simp
    simp only[pA,sB,sC];go_big_quiet_on;go_big_quiet_want;refine⟨.pointer (some (aD xb (xo+i*7+4))),fun x hx=>?_,?_⟩
    ·go_simp
    simp only[pA,sB,sC];go_big_quiet_on;go_big_quiet_want;refine⟨.slice ca cx.length cc,fun x hx=>?_,?_⟩
    ·have e:=cB (bQ1 hbr2 hx) n4;go_simp
    simp only[pA,sB,sC];go_big_quiet_on;go_big_quiet_want;refine⟨.bool true,fun x hx=>?_,?_⟩
    ·have hC:=Calls.within hx (hE4 x (bQ1 hbr2 hx));go_simp
    simp only[pA,sB,sC];go_big_quiet_on;go_big_quiet_want;refine⟨.bool true,fun x hx=>?_,?_⟩
    ·go_simp
    simp only[pA,sB,sC];go_big_quiet_on;refine wpQuiet_nil ?_;intro wq hbq;have kq:=bQ1 hbr2 hbq;clear hbq hbr2 hE4;go_wp2;refine wp_region_below (by kernel_rfl) (by kernel_rfl) ?_;go_big_quiet_want;refine⟨.pointer (some (aD G 0)),fun x hx=>?_,?_⟩
    ·go_simp
    simp only[pA,sB,sC];go_big_quiet_on;go_big_quiet_want;refine⟨.pointer (some (aD G 0)),fun x hx=>?_,?_⟩
    ·go_simp
    simp only[pA,sB,sC];go_big_quiet_on;go_big_quiet_want;refine⟨.pointer (some (aD G 8)),fun x hx=>?_,?_⟩
    ·go_simp
    simp only[pA,sB,sC];go_big_quiet_on;go_big_quiet_want;refine⟨.slice (some (aD bp 0)) pl.length (pl.length+2),fun x hx=>?_,?_⟩
    ·have e:=cB (bQ1 kq hx) g8;go_simp
    simp only[pA,sB,sC];go_big_quiet_on;go_big_quiet_want;refine⟨.int .i64 i,fun x hx=>?_,?_⟩
    ·go_simp
    simp only[pA,sB,sC];go_big_quiet_on;go_big_quiet_want;refine⟨.pointer (some (aD bp (i*7))),fun x hx=>?_,?_⟩
    ·go_simp
    simp only[pA,sB,sC];go_big_quiet_on;go_big_quiet_want;refine⟨.pointer (some (aD bp (i*7+6))),fun x hx=>?_,?_⟩
    ·go_simp
    simp only[pA,sB,sC];go_big_quiet_on;go_big_quiet_want;refine⟨.slice (some (aD Q 0)) ox.length (ox.length+2),fun x hx=>?_,?_⟩
    ·have e:=cB (bQ1 kq hx) l6;go_simp
    simp only[pA,sB,sC];go_big_quiet_on;go_big_quiet_want;refine⟨.slice (some (aD xb xo)) pl.length pcap,fun x hx=>?_,?_⟩
    ·go_simp
    simp only[pA,sB,sC];go_big_quiet_on;go_big_quiet_want;refine⟨.int .i64 i,fun x hx=>?_,?_⟩
    ·go_simp
    simp only[pA,sB,sC];go_big_quiet_on;go_big_quiet_want;refine⟨.pointer (some (aD xb (xo+i*7))),fun x hx=>?_,?_⟩
    ·go_simp
    simp only[pA,sB,sC];go_big_quiet_on;go_big_quiet_want;refine⟨.pointer (some (aD xb (xo+i*7+6))),fun x hx=>?_,?_⟩
    ·go_simp
    simp only[pA,sB,sC];go_big_quiet_on;go_big_quiet_want;refine⟨.slice oa' ox.length oc',fun x hx=>?_,?_⟩
    ·have e:=cB (bQ1 kq hx) n6;go_simp
    simp only[pA,sB,sC];go_big_quiet_on;go_big_quiet_want;refine⟨.bool true,fun x hx=>?_,?_⟩
    ·have hC:=Calls.within hx (hE6 x (bQ1 kq hx));go_simp
    simp only[pA,sB,sC];go_big_quiet_on;go_big_quiet_want;refine⟨.bool true,fun x hx=>?_,?_⟩
    ·go_simp
    simp only[pA,sB,sC];go_big_quiet_on;refine wpQuiet_nil ?_;intro wz hbz;have kz:=bQ1 kq hbz;clear hbz kq hE6;go_wp2;go_roundw
    case rel=>exact⟨i+1,by omega,by go_num,kz⟩
    case measure=>simp[intOf]; omega
   ·obtain rfl:i=pl.length:=by omega
    clear hil hit HPB HNX hpl g8;go_wp2;go_loopw [23] (fun iv wr2=>∃ i:Nat,i<=db.length/\iv=.int .i64 i/\Below w1.heap.size w1 wr2) (fun iv _=>db.length-(intOf iv).toNat)
    case atStart=>exact⟨0,Nat.zero_le _,rfl,hbr2⟩
    case round=>
     clear hbr2;obtain⟨i,hil,rfl,hbr3⟩:=hrel;by_cases hit:i<db.length
     ·
      obtain⟨xb,xo,rfl,hxc⟩:=CellsAt.get HDX.out.2.1 hit;obtain⟨yb,yo,hye,hyc⟩:=CellsAt.get HDH.out.2.1 (show i<db'.length by have:=HLN.out; omega)
      cases hye
      have hci:=hxc i hit;have hcl:=hyc i (by have:=HLN.out; omega);rw[Nat.zero_add] at hcl;have hta:=HDX.out.2.2 i hit;have hla:=HDH.out.2.2 i (by have:=HLN.out; omega);obtain⟨hsl,hsx⟩:=HSM.out i hit;have HTI:Hid _:=HTB.out i hit;clear hxc hyc;obtain⟨t,ht⟩:∃ t,t=db.getD i rz:=⟨_,rfl⟩
      obtain⟨l,hl⟩:∃ l,l=db'.getD i rz:=⟨_,rfl⟩
      rw[<- ht] at hci hta hsl hsx HTI;rw[<- hl] at hcl hla hsl hsx HTI;clear ht hl;obtain⟨tad,tcap,rs⟩:=t;obtain⟨lad,lcap,lrs⟩:=l;unfold RowsV.val at hci hcl;simp only at hci hcl hsl hsx HTI;have hRt:RowsAt w1 tad rs:=hta;have hRl:RowsAt w1 lad lrs:=hla;have hSR:=fun x (hb:Below w1.heap.size w1 x)=>sameRows_true lad tad lcap tcap lrs rs x (hRl.below hb) (hRt.below hb) hsl (fun j hj=>hsx j (by omega))
      have hrl:rs.length<=1152921504606846976:=hRt.1;have HRT:Hid _:=hRt;have HRL:Hid _:=hRl;have HSL:Hid _:=hsl;clear hta hla hRt hRl hsx hsl;go_wp2;refine wp_region_below (by kernel_rfl) (by kernel_rfl) ?_;go_big_quiet_want;refine⟨.pointer (some (aD G 0)),fun x hx=>?_,?_⟩
      ·go_simp
      simp only[pA,sB,sC];go_big_quiet_on;go_big_quiet_want;refine⟨.pointer (some (aD G 0)),fun x hx=>?_,?_⟩
      ·go_simp
      simp only[pA,sB,sC];go_big_quiet_on;go_big_quiet_want;refine⟨.pointer (some (aD G 9)),fun x hx=>?_,?_⟩
      ·go_simp
      simp only[pA,sB,sC];go_big_quiet_on;go_big_quiet_want;refine⟨.slice (some (aD bd 0)) db.length (db.length+2),fun x hx=>?_,?_⟩
      ·have e:=cB (bQ1 hbr3 hx) g9;go_simp
      simp only[pA,sB,sC];go_big_quiet_on;go_big_quiet_want;refine⟨.int .i64 i,fun x hx=>?_,?_⟩
      ·go_simp
      simp only[pA,sB,sC];go_big_quiet_on;go_big_quiet_want;refine⟨.pointer (some (aD bd i)),fun x hx=>?_,?_⟩
      ·go_simp
      simp only[pA,sB,sC];go_big_quiet_on;go_big_quiet_want;refine⟨.slice lad lrs.length lcap,fun x hx=>?_,?_⟩
      ·have e:=cB (bQ1 hbr3 hx) hcl;go_simp
      simp only[pA,sB,sC];go_big_quiet_on;go_big_quiet_want;refine⟨.slice (some (aD xb xo)) db.length dcap,fun x hx=>?_,?_⟩
      ·go_simp
      simp only[pA,sB,sC];go_big_quiet_on;go_big_quiet_want;refine⟨.int .i64 i,fun x hx=>?_,?_⟩
      ·go_simp
      simp only[pA,sB,sC];go_big_quiet_on;go_big_quiet_want;refine⟨.pointer (some (aD xb (xo+i))),fun x hx=>?_,?_⟩
      ·go_simp
      simp only[pA,sB,sC];go_big_quiet_on;go_big_quiet_want;refine⟨.slice tad rs.length tcap,fun x hx=>?_,?_⟩
      ·have e:=cB (bQ1 hbr3 hx) hci;go_simp
      simp only[pA,sB,sC];go_big_quiet_on;go_big_quiet_want;refine⟨.bool true,fun x hx=>?_,?_⟩
      ·have hC:=Calls.within hx (hSR x (bQ1 hbr3 hx));go_simp
      simp only[pA,sB,sC];go_big_quiet_on;go_big_quiet_want;refine⟨.bool true,fun x hx=>?_,?_⟩
      ·go_simp
      simp only[pA,sB,sC];go_big_quiet_on;refine wpQuiet_nil ?_;intro wq hbq;have kq:=bQ1 hbr3 hbq;clear hbq hbr3 hSR;have eci:=cB kq hci;go_wp2;clear eci;go_loopw [25] (fun jv wr4=>∃ j:Nat,j<=rs.length/\jv=.int .i64 j/\Below w1.heap.size w1 wr4) (fun jv _=>rs.length-(intOf jv).toNat)
      case atStart=>exact⟨0,Nat.zero_le _,rfl,kq⟩
      case round=>
      clear kq;obtain⟨j,hjl,rfl,hbr4⟩:=hrel;have eci:=cB hbr4 hci;by_cases hjt:j<rs.length
      ·obtain⟨tb,tq,rfl,htc⟩:=CellsAt.get HRT.out.2.1 hjt;obtain⟨lb,lo,rfl,hlc⟩:=CellsAt.get HRL.out.2.1 (show j<lrs.length by have:=HSL.out; omega);have hcx:=htc j hjt;have hcB:=hlc j (by have:=HSL.out; omega);have hxa:=HRT.out.2.2 j hjt;obtain⟨B,hBe,hBg⟩:=HTI.out j hjt;rw[hBe] at hcB;clear htc hlc hBe;obtain⟨x,hx0⟩:∃ x,x=rs.getD j iz:=⟨_,rfl⟩
       rw[<- hx0] at hcx hcB hxa hBg;clear hx0;obtain⟨xad,xcap,xs⟩:=x;unfold IntsV.val at hcx hcB;simp only at hcx hcB hBg;have hxi:IntsAt w1 xad xs:=hxa;have hLE:=fun x (hb:Below w1.heap.size w1 x)=>lent_true B xad xcap xs x (hBg.of (hb.block _ hBg.lt)) (IntsAt.below hb hxi)
       have hjl2:j<lrs.length:=by have:=HSL.out; omega
       have hlrl:lrs.length<=1152921504606846976:=by have:=HSL.out; omega
       clear hxa hxi hBg;go_wp2;refine wp_region_below (by kernel_rfl) (by kernel_rfl) ?_;go_big_quiet_want;refine⟨.pointer (some (aD G 0)),fun x hx=>?_,?_⟩
       ·go_simp
       simp only[pA,sB,sC];go_big_quiet_on;go_big_quiet_want;refine⟨.pointer (some (aD G 0)),fun x hx=>?_,?_⟩
       ·go_simp
       simp only[pA,sB,sC];go_big_quiet_on;go_big_quiet_want;refine⟨.pointer (some (aD G 9)),fun x hx=>?_,?_⟩
       ·go_simp
       simp only[pA,sB,sC];go_big_quiet_on;go_big_quiet_want;refine⟨.slice (some (aD bd 0)) db.length (db.length+2),fun x hx=>?_,?_⟩
       ·have e:=cB (bQ1 hbr4 hx) g9;go_simp
       simp only[pA,sB,sC];go_big_quiet_on;go_big_quiet_want;refine⟨.int .i64 i,fun x hx=>?_,?_⟩
       ·go_simp
       simp only[pA,sB,sC];go_big_quiet_on;go_big_quiet_want;refine⟨.pointer (some (aD bd i)),fun x hx=>?_,?_⟩
       ·go_simp
       simp only[pA,sB,sC];go_big_quiet_on;go_big_quiet_want;refine⟨.slice (some (aD lb lo)) lrs.length lcap,fun x hx=>?_,?_⟩
       ·have e:=cB (bQ1 hbr4 hx) hcl;go_simp
       simp only[pA,sB,sC];go_big_quiet_on;go_big_quiet_want;refine⟨.int .i64 j,fun x hx=>?_,?_⟩
       ·go_simp
       simp only[pA,sB,sC];go_big_quiet_on;go_big_quiet_want;refine⟨.pointer (some (aD lb (lo+j))),fun x hx=>?_,?_⟩
       ·go_simp
       simp only[pA,sB,sC];go_big_quiet_on;go_big_quiet_want;refine⟨.slice (some (aD B 0)) xs.length (xs.length+2),fun x hx=>?_,?_⟩
       ·have e:=cB (bQ1 hbr4 hx) hcB;go_simp
       simp only[pA,sB,sC];go_big_quiet_on;go_big_quiet_want;refine⟨.slice (some (aD xb xo)) db.length dcap,fun x hx=>?_,?_⟩
       ·go_simp
       simp only[pA,sB,sC];go_big_quiet_on;go_big_quiet_want;refine⟨.int .i64 i,fun x hx=>?_,?_⟩
       ·go_simp
       simp only[pA,sB,sC];go_big_quiet_on;go_big_quiet_want;refine⟨.pointer (some (aD xb (xo+i))),fun x hx=>?_,?_⟩
       ·go_simp
       simp only[pA,sB,sC];go_big_quiet_on;go_big_quiet_want;refine⟨.slice (some (aD tb tq)) rs.length tcap,fun x hx=>?_,?_⟩
       ·have e:=cB (bQ1 hbr4 hx) hci;go_simp
       simp only[pA,sB,sC];go_big_quiet_on;go_big_quiet_want;refine⟨.int .i64 j,fun x hx=>?_,?_⟩
       ·go_simp
       simp only[pA,sB,sC];go_big_quiet_on;go_big_quiet_want;refine⟨.pointer (some (aD tb (tq+j))),fun x hx=>?_,?_⟩
       ·go_simp
       simp only[pA,sB,sC];go_big_quiet_on;go_big_quiet_want;refine⟨.slice xad xs.length xcap,fun x hx=>?_,?_⟩
       ·have e:=cB (bQ1 hbr4 hx) hcx;go_simp
       simp only[pA,sB,sC];go_big_quiet_on;go_big_quiet_want;refine⟨.bool true,fun x hx=>?_,?_⟩
       ·have hC:=Calls.within hx (hLE x (bQ1 hbr4 hx));go_simp
       simp only[pA,sB,sC];go_big_quiet_on;go_big_quiet_want;refine⟨.bool true,fun x hx=>?_,?_⟩
       ·go_simp
       simp only[pA,sB,sC];go_big_quiet_on;refine wpQuiet_nil ?_;intro wz hbz;have kz:=bQ1 hbr4 hbz;clear hbz hbr4 hLE eci;go_wp2;go_roundw
       case rel=>exact⟨j+1,by omega,by go_num,kz⟩
       case measure=>simp[intOf]; omega
      ·go_wp2;go_roundw
       case rel=>exact⟨i+1,by omega,by go_num,hbr4⟩
       case measure=>simp[intOf]; omega
     ·go_wp2;go_ret;exact⟨rfl,bQ1 HK1.out hbr3⟩
end Go.Proofs.YtlpbelhfpoilpaaGreatDoor
namespace Go.Scout
open Go.RowKit
theorem lentQ_same (q:QueryV) (bf bk bu be bo bw:Nat) (A:Nat->Nat):SameQ q (lentQ q bf bk bu be bo bw A):=
 ⟨rfl,lentLs_len q.wh A,fun i=>by
  have h:(lentLs q.wh A).map ClauseV.cs=q.wh.map ClauseV.cs:=lentLs_cs q.wh A;have h1:=map_getD ClauseV.cs (lentLs q.wh A) i lz;have h2:=map_getD ClauseV.cs q.wh i lz;rw[h] at h1;exact h1.symm.trans h2,rfl,rfl,rfl,rfl⟩
theorem lent_fair (ts:List TableD) (q:QueryV) (bf bk bu be bo bw:Nat) (A:Nat->Nat) {pl ns:List NodeV} (hl:ns.length=pl.length) (h:∀ i,i<pl.length->(ns.getD i nz).same (pl.getD i nz)) :
  fairN ts (lentQ q bf bk bu be bo bw A) ns=fairN ts q pl/\costOfN ts (lentQ q bf bk bu be bo bw A) ns=costOfN ts q pl:=by
 have e:lookP ts (lentQ q bf bk bu be bo bw A) ns=lookP ts q pl:=(SameQ.look (lentQ_same q bf bk bu be bo bw A) ts ns).trans (look_nodes ts q hl h);unfold fairN costOfN;rw[lentQ_check,e];exact⟨rfl,rfl⟩
end Go.Scout
namespace Go.Proofs.YtlpbelhfpoilpaaGreatDoor
open Go.RowKit Go.Scout
theorem numF_any (e:Int) (w:World):Calls Tryz.prog 16 #[.int .i64 e] w fun r w'=>r=.returned (.int .i64 e)/\w' = w:=by
 go_enter Tryz.func16,Tryz.ntmps16;go_wp2;go_ret;exact⟨rfl,rfl⟩
theorem fairs_any (ao po:Option Addr) (cap pcap:Nat) (ts:List TableD) (q:QueryV) (pl:List NodeV) (w:World) (hx:TablesAt w ao ts) (hq:q.At w) (hp:NodesAt w po pl) (hsh:ShapesAt w 0) (hsz:ts.length*48<=140737488351232)
  (z1:q.src.xs.length*8<=140737488351232) (z2:q.keys.xs.length*8<=140737488351232) (z3:q.sums.xs.length*8<=140737488351232) (z4:q.sel.xs.length*8<=140737488351232) (z5:q.ord.xs.length*8<=140737488351232)
  (z6:q.wh.length*24<=140737488351232) (z7:∀ i,i<q.wh.length->(q.wh.getD i lz).cs.length*40<=140737488351232) (p1:pl.length*88<=140737488351232) (p2:∀ i,i<pl.length->(pl.getD i nz).cl.xs.length*8<=140737488351232/\(pl.getD i nz).co.xs.length*8<=140737488351232) :
  Calls Tryz.prog 3 #[.slice ao ts.length cap,.agg q.cells,.slice po pl.length pcap] w fun e w'=>e=.returned (.bool true)/\Below w.heap.size w w':=by
 obtain⟨w1,hw1⟩:∃ x,x=w.alloc (.cells q.cells 26):=⟨_,rfl⟩
 have hk1:Below w.heap.size w w1:=by rw[hw1]; exact bQ2 _ _
 have hbox:GB w1 w.heap.size 26 q.cells:=by rw[hw1]; exact bQ3 _ _
 have hDB:DbAt w1 none []:=⟨by simp,fun i hi=>absurd hi (by simp),fun i hi=>absurd hi (by simp)⟩
 have hGI:=giveP_any ao none po cap 0 pcap ts q [] pl w1 (hx.below hk1) (hq.below hk1) hDB (NodesAt.below hk1 hp) hsz z1 z2 z3 z4 z5 z6 z7 (by simp) (fun i hi=>absurd hi (by simp)) (fun i hi=>absurd hi (by simp)) p1 p2;have HRD:Hid (∀ x,Below w1.heap.size w1 x->Calls Tryz.prog 14 #[.slice ao ts.length cap,.agg q.cells,.slice po pl.length pcap] x (ReadPost (fairN ts q pl) (costOfN ts q pl) x)):=fun x hb=>by
  rw[(fair_read ts q pl).1,(fair_read ts q pl).2];exact read_any ao po cap pcap ts q pl x (hx.below (bQ1 hk1 hb)) (hq.below (bQ1 hk1 hb)) (NodesAt.below (bQ1 hk1 hb) hp)
 have HX1:Hid (TablesAt w1 ao ts):=hx.below hk1;have HQ1:Hid (q.At w1):=hq.below hk1;have HP1:Hid (NodesAt w1 po pl):=NodesAt.below hk1 hp;have HS1:Hid (ShapesAt w1 0):=ShapesAt.below hk1 hsh;have HDB:Hid _:=hDB;have hts:=hx.1;have hpl:=hp.1;have HK1:Hid (Below w.heap.size w w1):=hk1;have hw1':w.alloc (.cells q.cells 26)=w1:=hw1.symm;clear hk1 hw1 hx hq hp hsh hDB hsz z1 z2 z3 z4 z5 z6 z7 p1 p2;obtain⟨⟨sa,sc,src⟩,wad,wcap,wh,group,⟨ka,kc,keys⟩,⟨ua,uc,sums⟩,⟨ea,ec,sel⟩,⟨oa,oc,ord⟩⟩:=q;have hcells:(QueryV.mk ⟨sa,sc,src⟩ wad wcap wh group ⟨ka,kc,keys⟩ ⟨ua,uc,sums⟩ ⟨ea,ec,sel⟩ ⟨oa,oc,ord⟩).cells=#[.slice sa src.length sc,.slice wad wh.length wcap,.bool group,.slice ka keys.length kc,.slice ua sums.length uc,.slice ea sel.length ec,.slice oa ord.length oc]:=rfl;rw[hcells] at hGI HRD hbox hw1' ⊢;have b0:w1.cell? (aD w.heap.size 0)=some (.slice sa src.length sc):=hbox.cell 0;have b1:w1.cell? (aD w.heap.size 1)=some (.slice wad wh.length wcap):=hbox.cell 1;have b2:w1.cell? (aD w.heap.size 2)=some (.bool group):=hbox.cell 2;have b3:w1.cell? (aD w.heap.size 3)=some (.slice ka keys.length kc):=hbox.cell 3;have b4:w1.cell? (aD w.heap.size 4)=some (.slice ua sums.length uc):=hbox.cell 4;have b5:w1.cell? (aD w.heap.size 5)=some (.slice ea sel.length ec):=hbox.cell 5;have b6:w1.cell? (aD w.heap.size 6)=some (.slice oa ord.length oc):=hbox.cell 6;go_enter Tryz.func3,Tryz.ntmps3;go_wp2_with fail;refine Calls.mono hGI ?_;clear hGI hw1' b0 b1 b2 b3 b4 b5 b6;rintro e w2 ⟨G,bc,bf,bk,bu,be,bo,bw,bp,bd,v,vr,u1,u2,A,k1,k2,s1,s2,x1,x2,db',ns,rfl,h⟩;have hNS:=h.plan.nodes HP1.out;have hsame:=h.plan.same;have hnl:(ns.take pl.length).length=pl.length:=by rw[List.length_take,h.plan.len]; omega
 obtain⟨hfe,hce⟩:=lent_fair ts (QueryV.mk ⟨sa,sc,src⟩ wad wcap wh group ⟨ka,kc,keys⟩ ⟨ua,uc,sums⟩ ⟨ea,ec,sel⟩ ⟨oa,oc,ord⟩) bf bk bu be bo bw A hnl hsame;have hcaps:∀ i,i<(ns.take pl.length).length->((ns.take pl.length).getD i nz).co.xs.length<=((ns.take pl.length).getD i nz).co.cap:=fun i hi=>by
  rw[hnl] at hi;obtain⟨P,Q,e,_⟩:=h.plan.lent i hi;rw[getD_take _ _ _ _ hi,e]
  show (pl.getD i nz).co.xs.length<=(pl.getD i nz).co.xs.length+2
  omega
 have kb:=h.bel;have hlc:(lentQ (QueryV.mk ⟨sa,sc,src⟩ wad wcap wh group ⟨ka,kc,keys⟩ ⟨ua,uc,sums⟩ ⟨ea,ec,sel⟩ ⟨oa,oc,ord⟩) bf bk bu be bo bw A).cells=#[.slice (some (aD bf 0)) src.length (src.length+2),.slice (some (aD bw 0)) wh.length (wh.length+2),.bool group,.slice (some (aD bk 0)) keys.length (keys.length+2),.slice (some (aD bu 0)) sums.length (sums.length+2),.slice (some (aD be 0)) sel.length (sel.length+2),.slice (some (aD bo 0)) ord.length (ord.length+2)]:=by
  show #[_,Value.slice _ (lentLs wh A).length _,_,_,_,_,_]=_
  rw[lentLs_len];rfl
 have hFA:∀ x,Below w2.heap.size w2 x->Calls Tryz.prog 12 #[.slice (some (aD bc 0)) ts.length (ts.length+2),.agg #[.slice (some (aD bf 0)) src.length (src.length+2),.slice (some (aD bw 0)) wh.length (wh.length+2),.bool group,.slice (some (aD bk 0)) keys.length (keys.length+2),.slice (some (aD bu 0)) sums.length (sums.length+2),.slice (some (aD be 0)) sel.length (sel.length+2),.slice (some (aD bo 0)) ord.length (ord.length+2)],.slice (some (aD bp 0)) pl.length (pl.length+2)] x fun e w'=>e=.returned (.int .i64 (fairN ts (QueryV.mk ⟨sa,sc,src⟩ wad wcap wh group ⟨ka,kc,keys⟩ ⟨ua,uc,sums⟩ ⟨ea,ec,sel⟩ ⟨oa,oc,ord⟩) pl))/\Below x.heap.size x w':=fun x hb=>by
  have h1:=scoutFair_any (some (aD bc 0)) (ts.length+2) ts (lentQ (QueryV.mk ⟨sa,sc,src⟩ wad wcap wh group ⟨ka,kc,keys⟩ ⟨ua,uc,sums⟩ ⟨ea,ec,sel⟩ ⟨oa,oc,ord⟩) bf bk bu be bo bw A) (some (aD bp 0)) (pl.length+2) (ns.take pl.length) x ((tabsAt h.cat hts).below hb) ((GivP_query h HQ1.out).below hb) (by show keys.length<=keys.length+2; omega) (by show ord.length<=ord.length+2; omega) (NodesAt.below hb hNS) (ShapesAt.below (bQ1 kb hb) HS1.out) hcaps;rw[hfe,hlc,hnl] at h1;exact h1
 have hCA:∀ x,Below w2.heap.size w2 x->Calls Tryz.prog 13 #[.slice (some (aD bc 0)) ts.length (ts.length+2),.agg #[.slice (some (aD bf 0)) src.length (src.length+2),.slice (some (aD bw 0)) wh.length (wh.length+2),.bool group,.slice (some (aD bk 0)) keys.length (keys.length+2),.slice (some (aD bu 0)) sums.length (sums.length+2),.slice (some (aD be 0)) sel.length (sel.length+2),.slice (some (aD bo 0)) ord.length (ord.length+2)],.slice (some (aD bp 0)) pl.length (pl.length+2)] x fun e w'=>e=.returned (.tuple #[.int .u64 ((costOfN ts (QueryV.mk ⟨sa,sc,src⟩ wad wcap wh group ⟨ka,kc,keys⟩ ⟨ua,uc,sums⟩ ⟨ea,ec,sel⟩ ⟨oa,oc,ord⟩) pl:Nat):Int),.int .i64 (fairN ts (QueryV.mk ⟨sa,sc,src⟩ wad wcap wh group ⟨ka,kc,keys⟩ ⟨ua,uc,sums⟩ ⟨ea,ec,sel⟩ ⟨oa,oc,ord⟩) pl)])/\Below x.heap.size x w':=fun x hb=>by
  have h1:=scoutCost_any (some (aD bc 0)) (ts.length+2) ts (lentQ (QueryV.mk ⟨sa,sc,src⟩ wad wcap wh group ⟨ka,kc,keys⟩ ⟨ua,uc,sums⟩ ⟨ea,ec,sel⟩ ⟨oa,oc,ord⟩) bf bk bu be bo bw A) (some (aD bp 0)) (pl.length+2) (ns.take pl.length) x ((tabsAt h.cat hts).below hb) ((GivP_query h HQ1.out).below hb) (by show keys.length<=keys.length+2; omega) (by show ord.length<=ord.length+2; omega) (NodesAt.below hb hNS) (ShapesAt.below (bQ1 kb hb) HS1.out) hcaps;rw[hfe,hce,hlc,hnl] at h1;exact h1
 have HWO:Hid (∀ x,Below w2.heap.size w2 x->Calls Tryz.prog 15 #[.pointer (some (aD G 0)),.slice ao ts.length cap,.agg #[.slice sa src.length sc,.slice wad wh.length wcap,.bool group,.slice ka keys.length kc,.slice ua sums.length uc,.slice ea sel.length ec,.slice oa ord.length oc],.slice po pl.length pcap,.slice none 0 0] x fun e w'=>e=.returned (.bool true)/\Below x.heap.size x w'):=fun x hb=>by
  have hb1:=bQ1 kb hb;have h1:=wholeP_true w1 x G ao none po cap 0 pcap ts (QueryV.mk ⟨sa,sc,src⟩ wad wcap wh group ⟨ka,kc,keys⟩ ⟨ua,uc,sums⟩ ⟨ea,ec,sel⟩ ⟨oa,oc,ord⟩) [] db' pl ns bc bf bk bu be bo bw bp bd v vr u1 u2 A k1 k2 s1 s2 x1 x2 (h.below hb) (TablesAt.below hb1 HX1.out) (QueryV.At.below hb1 HQ1.out) ⟨by simp,fun i hi=>absurd hi (by simp),fun i hi=>absurd hi (by simp)⟩ (NodesAt.below hb1 HP1.out);rw[hcells] at h1;exact h1
 have g0:w2.cell? (aD G 0)=some (.slice (some (aD bc 0)) ts.length (ts.length+2)):=h.g.cell 0;have g1:w2.cell? (aD G 1)=some (.slice (some (aD bf 0)) src.length (src.length+2)):=h.g.cell 1;have g2:w2.cell? (aD G 2)=some (.slice (some (aD bw 0)) wh.length (wh.length+2)):=h.g.cell 2;have g3:w2.cell? (aD G 3)=some (.bool group):=h.g.cell 3;have g4:w2.cell? (aD G 4)=some (.slice (some (aD bk 0)) keys.length (keys.length+2)):=h.g.cell 4;have g5:w2.cell? (aD G 5)=some (.slice (some (aD bu 0)) sums.length (sums.length+2)):=h.g.cell 5;have g6:w2.cell? (aD G 6)=some (.slice (some (aD be 0)) sel.length (sel.length+2)):=h.g.cell 6;have g7:w2.cell? (aD G 7)=some (.slice (some (aD bo 0)) ord.length (ord.length+2)):=h.g.cell 7;have g8:w2.cell? (aD G 8)=some (.slice (some (aD bp 0)) pl.length (pl.length+2)):=h.g.cell 8;have x10:w2.cell? (aD w.heap.size 0)=some (.slice sa src.length sc):=cB kb (hbox.cell 0);have x11:w2.cell? (aD w.heap.size 1)=some (.slice wad wh.length wcap):=cB kb (hbox.cell 1);have x12:w2.cell? (aD w.heap.size 2)=some (.bool group):=cB kb (hbox.cell 2);have x13:w2.cell? (aD w.heap.size 3)=some (.slice ka keys.length kc):=cB kb (hbox.cell 3);have x14:w2.cell? (aD w.heap.size 4)=some (.slice ua sums.length uc):=cB kb (hbox.cell 4);have x15:w2.cell? (aD w.heap.size 5)=some (.slice ea sel.length ec):=cB kb (hbox.cell 5);have x16:w2.cell? (aD w.heap.size 6)=some (.slice oa ord.length oc):=cB kb (hbox.cell 6);have HKB:Hid (Below w1.heap.size w1 w2):=kb;generalize fairN ts (QueryV.mk ⟨sa,sc,src⟩ wad wcap wh group ⟨ka,kc,keys⟩ ⟨ua,uc,sums⟩ ⟨ea,ec,sel⟩ ⟨oa,oc,ord⟩) pl=R at *;generalize costOfN ts (QueryV.mk ⟨sa,sc,src⟩ wad wcap wh group ⟨ka,kc,keys⟩ ⟨ua,uc,sums⟩ ⟨ea,ec,sel⟩ ⟨oa,oc,ord⟩) pl=CN at *;have HFA:Hid _:=hFA;have HCA:Hid _:=hCA;clear h hNS hsame hnl hfe hce hcaps kb hlc hFA hCA hbox hcells;go_wp2_with fail;refine wp_region_below (by kernel_rfl) (by kernel_rfl) ?_;go_big_quiet_want;refine⟨.pointer (some (aD G 0)),fun x hx=>?_,?_⟩
 ·go_simp
 simp only[pA,sB,sC];go_big_quiet_on;go_big_quiet_want;refine⟨.pointer (some (aD G 0)),fun x hx=>?_,?_⟩
 ·go_simp
 simp only[pA,sB,sC];go_big_quiet_on;go_big_quiet_want;refine⟨.pointer (some (aD G 0)),fun x hx=>?_,?_⟩
 ·go_simp
 simp only[pA,sB,sC];go_big_quiet_on;go_big_quiet_want;refine⟨.slice (some (aD bc 0)) ts.length (ts.length+2),fun x hx=>?_,?_⟩
 ·have e:=cB hx g0;go_simp
 simp only[pA,sB,sC];go_big_quiet_on;go_big_quiet_want;refine⟨.pointer (some (aD G 0)),fun x hx=>?_,?_⟩
 ·go_simp
 simp only[pA,sB,sC];go_big_quiet_on;go_big_quiet_want;refine⟨.pointer (some (aD G 0)),fun x hx=>?_,?_⟩
 ·go_simp
 simp only[pA,sB,sC];go_big_quiet_on;go_big_quiet_want;refine⟨.pointer (some (aD G 1)),fun x hx=>?_,?_⟩
 ·go_simp
 simp only[pA,sB,sC];go_big_quiet_on;go_big_quiet_want;refine⟨.agg #[.slice (some (aD bf 0)) src.length (src.length+2),.slice (some (aD bw 0)) wh.length (wh.length+2),.bool group,.slice (some (aD bk 0)) keys.length (keys.length+2),.slice (some (aD bu 0)) sums.length (sums.length+2),.slice (some (aD be 0)) sel.length (sel.length+2),.slice (some (aD bo 0)) ord.length (ord.length+2)],fun x hx=>?_,?_⟩
 ·have e1:=cB hx g1;have e2:=cB hx g2;have e3:=cB hx g3;have e4:=cB hx g4;have e5:=cB hx g5;have e6:=cB hx g6;have e7:=cB hx g7;go_simp
 simp only[pA,sB,sC];go_big_quiet_on;go_big_quiet_want;refine⟨.pointer (some (aD G 0)),fun x hx=>?_,?_⟩
 ·go_simp
 simp only[pA,sB,sC];go_big_quiet_on;go_big_quiet_want;refine⟨.pointer (some (aD G 0)),fun x hx=>?_,?_⟩
 ·go_simp
 simp only[pA,sB,sC];go_big_quiet_on;go_big_quiet_want;refine⟨.pointer (some (aD G 8)),fun x hx=>?_,?_⟩
 ·go_simp
 simp only[pA,sB,sC];go_big_quiet_on;go_big_quiet_want;refine⟨.slice (some (aD bp 0)) pl.length (pl.length+2),fun x hx=>?_,?_⟩
 ·have e:=cB hx g8;go_simp
 simp only[pA,sB,sC];go_big_quiet_on;go_big_quiet_want;refine⟨.int .i64 R,fun x hx=>?_,?_⟩
 ·have hC:=Calls.within hx (HFA.out x hx);go_simp
 simp only[pA,sB,sC];go_big_quiet_on;go_big_quiet_want;refine⟨.int .i64 R,fun x hx=>?_,?_⟩
 ·go_simp
 simp only[pA,sB,sC];go_big_quiet_on;refine wpQuiet_nil ?_;intro w3 hb3;have i0:=cB hb3 g0;have i1:=cB hb3 g1;have i2:=cB hb3 g2;have i3:=cB hb3 g3;have i4:=cB hb3 g4;have i5:=cB hb3 g5;have i6:=cB hb3 g6;have i7:=cB hb3 g7;have i8:=cB hb3 g8;have HB3:Hid (Below w2.heap.size w2 w3):=hb3;clear hb3 g0 g1 g2 g3 g4 g5 g6 g7 g8 HFA;go_wp2_with fail;refine wp_region_below (by kernel_rfl) (by kernel_rfl) ?_;go_big_quiet_want;refine⟨.pointer (some (aD G 0)),fun x hx=>?_,?_⟩
 ·go_simp
 simp only[pA,sB,sC];go_big_quiet_on;go_big_quiet_want;refine⟨.pointer (some (aD G 0)),fun x hx=>?_,?_⟩
 ·go_simp
 simp only[pA,sB,sC];go_big_quiet_on;go_big_quiet_want;refine⟨.pointer (some (aD G 0)),fun x hx=>?_,?_⟩
 ·go_simp
 simp only[pA,sB,sC];go_big_quiet_on;go_big_quiet_want;refine⟨.slice (some (aD bc 0)) ts.length (ts.length+2),fun x hx=>?_,?_⟩
 ·have e:=cB hx i0;go_simp
 simp only[pA,sB,sC];go_big_quiet_on;go_big_quiet_want;refine⟨.pointer (some (aD G 0)),fun x hx=>?_,?_⟩
 ·go_simp
 simp only[pA,sB,sC];go_big_quiet_on;go_big_quiet_want;refine⟨.pointer (some (aD G 0)),fun x hx=>?_,?_⟩
 ·go_simp
 simp only[pA,sB,sC];go_big_quiet_on;go_big_quiet_want;refine⟨.pointer (some (aD G 1)),fun x hx=>?_,?_⟩
 ·go_simp
 simp only[pA,sB,sC];go_big_quiet_on;go_big_quiet_want;refine⟨.agg #[.slice (some (aD bf 0)) src.length (src.length+2),.slice (some (aD bw 0)) wh.length (wh.length+2),.bool group,.slice (some (aD bk 0)) keys.length (keys.length+2),.slice (some (aD bu 0)) sums.length (sums.length+2),.slice (some (aD be 0)) sel.length (sel.length+2),.slice (some (aD bo 0)) ord.length (ord.length+2)],fun x hx=>?_,?_⟩
 ·have e1:=cB hx i1;have e2:=cB hx i2;have e3:=cB hx i3;have e4:=cB hx i4;have e5:=cB hx i5;have e6:=cB hx i6;have e7:=cB hx i7;go_simp
 simp only[pA,sB,sC];go_big_quiet_on;go_big_quiet_want;refine⟨.pointer (some (aD G 0)),fun x hx=>?_,?_⟩
 ·go_simp
 simp only[pA,sB,sC];go_big_quiet_on;go_big_quiet_want;refine⟨.pointer (some (aD G 0)),fun x hx=>?_,?_⟩
 ·go_simp
 simp only[pA,sB,sC];go_big_quiet_on;go_big_quiet_want;refine⟨.pointer (some (aD G 8)),fun x hx=>?_,?_⟩
 ·go_simp
 simp only[pA,sB,sC];go_big_quiet_on;go_big_quiet_want;refine⟨.slice (some (aD bp 0)) pl.length (pl.length+2),fun x hx=>?_,?_⟩
 ·have e:=cB hx i8;go_simp
 simp only[pA,sB,sC];go_big_quiet_on;go_big_quiet_want;refine⟨.tuple #[.int .u64 (CN:Int),.int .i64 R],fun x hx=>?_,?_⟩
 ·have hC:=Calls.within hx (HCA.out x (bQ1 HB3.out hx));go_simp
 simp only[pA,sB,sC];go_big_quiet_on;go_big_quiet_want;refine⟨.tuple #[.int .u64 (CN:Int),.int .i64 R],fun x hx=>?_,?_⟩
 ·go_simp
 simp only[pA,sB,sC];go_big_quiet_on;go_big_quiet_want;refine⟨.int .u64 (CN:Int),fun x hx=>?_,?_⟩
 ·go_simp
 simp only[pA,sB,sC];go_big_quiet_on;go_big_quiet_want;refine⟨.int .i64 R,fun x hx=>?_,?_⟩
 ·go_simp
 simp only[pA,sB,sC];go_big_quiet_on;go_big_quiet_want;refine⟨.int .u64 (CN:Int),fun x hx=>?_,?_⟩
 ·go_simp
 simp only[pA,sB,sC];go_big_quiet_on;go_big_quiet_want;refine⟨.int .i64 R,fun x hx=>?_,?_⟩
 ·go_simp
 simp only[pA,sB,sC];go_big_quiet_on;refine wpQuiet_nil ?_;intro w4 hb4;have HB4:Hid (Below w2.heap.size w2 w4):=bQ1 HB3.out hb4;have y10:=cB HB4.out x10;have y11:=cB HB4.out x11;have y12:=cB HB4.out x12;have y13:=cB HB4.out x13;have y14:=cB HB4.out x14;have y15:=cB HB4.out x15;have y16:=cB HB4.out x16;have hRD:=HRD.out w4 (bQ1 HKB.out HB4.out);clear hb4 HCA HRD i0 i1 i2 i3 i4 i5 i6 i7 i8;go_wp2_with fail;refine Calls.mono hRD ?_;rintro e w5 ⟨vw,rfl,hvc,hb5⟩;clear hRD y10 y11 y12 y13 y14 y15 y16;have HB5:Hid (Below w2.heap.size w2 w5):=bQ1 HB4.out hb5;obtain⟨⟨a1,c1,l1⟩,⟨a2,c2,l2⟩,⟨a3,c3,l3⟩,vout,vsz,vct⟩:=vw;have hvc:vct=CN:=hvc;subst hvc;simp only[ViewV.cells,IntsV.val];obtain⟨w6,hw6⟩:∃ x,w5.alloc (.cells #[.slice a1 l1.length c1,.slice a2 l2.length c2,.slice a3 l3.length c3,.bool vout,.int .u64 (vsz:Int),.int .u64 (vct:Int)] 40)=x:=⟨_,rfl⟩
 have k6:Below w5.heap.size w5 w6:=by rw[<- hw6]; exact bQ2 _ _
 have g6:GB w6 w5.heap.size 40 #[.slice a1 l1.length c1,.slice a2 l2.length c2,.slice a3 l3.length c3,.bool vout,.int .u64 (vsz:Int),.int .u64 (vct:Int)]:=by rw[<- hw6]; exact bQ3 _ _
 have HB6:Hid (Below w2.heap.size w2 w6):=bQ1 HB5.out k6;have t5:w6.cell? (aD w5.heap.size 5)=some (.int .u64 (vct:Int)):=g6.cell 5;have y10:=cB HB6.out x10;have y11:=cB HB6.out x11;have y12:=cB HB6.out x12;have y13:=cB HB6.out x13;have y14:=cB HB6.out x14;have y15:=cB HB6.out x15;have y16:=cB HB6.out x16;have hWO:=HWO.out w6 HB6.out;clear hb5 k6 g6 HWO;go_wp2_with fail;refine Calls.mono hWO ?_;rintro e w7 ⟨rfl,hb7⟩;have t7:=cB hb7 t5;have HB7:Hid (Below w2.heap.size w2 w7):=bQ1 HB6.out hb7;clear hWO hb7 t5 hw6 y10 y11 y12 y13 y14 y15 y16 x10 x11 x12 x13 x14 x15 x16;have hRR:(R==R)=true:=by simp
 go_wp2_with fail;refine (numF_any R _).mono ?_;rintro e w8 ⟨rfl,hw8⟩;have hw8:=hw8.symm;subst hw8;go_wp2_with fail;refine (numF_any R _).mono ?_;rintro e w8 ⟨rfl,hw8⟩;have hw8:=hw8.symm;subst hw8;go_wp2;go_ret;exact⟨rfl,bQ1 HK1.out (bQ1 HKB.out HB7.out)⟩
open Go.RowKit Go.Scout Go.Deep Go.ChangeShapes Go.WideShapes Go.ChangeAt
theorem Tryz.cells3:Tryz.prog.cellsOf 3=1:=by kernel_rfl
theorem Tryz.cells4:Tryz.prog.cellsOf 4=1:=by kernel_rfl
theorem Tryz.cells23:Tryz.prog.cellsOf 23=1:=by kernel_rfl
theorem Tryz.cells138:Tryz.prog.cellsOf 138=1:=by kernel_rfl
theorem Tryz.cells24:Tryz.prog.cellsOf 24=1:=by kernel_rfl
theorem Tryz.cells140:Tryz.prog.cellsOf 140=1:=by kernel_rfl
theorem Tryz.cells93:Tryz.prog.cellsOf 93=4:=by kernel_rfl
theorem Tryz.cells95:Tryz.prog.cellsOf 95=6:=by kernel_rfl
theorem Tryz.cells137:Tryz.prog.cellsOf 137=5:=by kernel_rfl
theorem Tryz.cells26:Tryz.prog.cellsOf 26=7:=by kernel_rfl
theorem Tryz.bytes3:Tryz.prog.bytesOf 3=8:=by kernel_rfl
theorem Tryz.bytes95:Tryz.prog.bytesOf 95=48:=by kernel_rfl
theorem Tryz.bytes137:Tryz.prog.bytesOf 137=40:=by kernel_rfl
theorem Tryz.bytes140:Tryz.prog.bytesOf 140=24:=by kernel_rfl
variable {H:Type} {enc:TypeId × Value->H} {w:World} {spare:Nat->Bool} {held:Bool} {fuel:Nat}
theorem addr_none {a:Addr} {v:Value} (h:w.cell? (a.add 0)=some v):∃ b off,a=(aD b off):=by
 obtain⟨b,off,spot⟩:=a;have hs:spot=none:=by
  have:=World.cell?_spot h
  simpa [Addr.add] using this
 subst hs;exact⟨b,off,rfl⟩
theorem addr_add' (b off j:Nat):((aD b off):Addr).add j=(aD b (off+j)):=by unfold Addr.add; split <;> simp_all
theorem openInts {v:Value} {x:DataW H × List MemPlace} (h:DataW.trod enc Tryz.prog w 0 spare held fuel 23 [v]=some x) (hw:∀ n∈x.1.weights Tryz.prog 23,n<=reachBytes) :
  ∃ iv:IntsV,v=iv.val/\iv.At w/\iv.xs.length*8<=140737488351232:=by
 rcases open_ints Tryz.underlying23 Tryz.underlying3 Tryz.cells3 h with⟨hcs,_⟩ | ⟨a,len,cap,zs,hcs,_,hl,hm,hz,hx,hcell,_⟩
 ·simp at hcs;subst hcs;exact⟨⟨none,0,[]⟩,rfl,⟨by simp,fun i hi=>absurd hi (by simp)⟩,by simp⟩
 ·simp at hcs;subst hcs;have hlz:len<=zs.length:=by rw[hz]; split <;> omega
  have hlen:(zs.take len).length=len:=by rw[List.length_take]; omega
  have hb:len*8<=140737488351232:=by
   have h2:=hw (((lits IntKind.i64 (zs.take len):List (DataW H)).length+(lits IntKind.i64 (zs.drop len):List (DataW H)).length)*Tryz.prog.bytesOf 3) (by rw[hx]; simp[DataW.weights,Tryz.underlying23]);rw[Tryz.bytes3] at h2;simp only[lits,List.length_map,List.length_take,List.length_drop,reachBytes] at h2;omega
  refine⟨⟨some a,cap,zs.take len⟩,?_,⟨by show (zs.take len).length<=_; omega,fun i hi=>?_⟩,?_⟩
  ·show _=Value.slice (some a) (zs.take len).length cap
   rw[hlen]
  ·have hi':i<len:=by
    have:i<(zs.take len).length:=hi;omega
   have hc:=hcell i (by omega);obtain⟨b,off,rfl⟩:=addr_none (hcell 0 (by omega));refine⟨b,off,rfl,?_⟩;rw[addr_add'] at hc;rw[hc];simp[List.getD,hi']
  ·show (zs.take len).length*8<=_
   omega
theorem list3 {α:Type} {l:List α} (h:l.length=3):∃ a b c,l=[a,b,c]:=by
 match l,h with
 | [a,b,c],_ => exact⟨a,b,c,rfl⟩
theorem list4 {α:Type} {l:List α} (h:l.length=4):∃ a b c d,l=[a,b,c,d]:=by
 match l,h with
 | [a,b,c,d],_ => exact⟨a,b,c,d,rfl⟩
theorem list5 {α:Type} {l:List α} (h:l.length=5):∃ a b c d e,l=[a,b,c,d,e]:=by
 match l,h with
 | [a,b,c,d,e],_ => exact⟨a,b,c,d,e,rfl⟩
theorem list6 {α:Type} {l:List α} (h:l.length=6):∃ a b c d e f,l=[a,b,c,d,e,f]:=by
 match l,h with
 | [a,b,c,d,e,f],_ => exact⟨a,b,c,d,e,f,rfl⟩
theorem list7 {α:Type} {l:List α} (h:l.length=7):∃ a b c d e f g,l=[a,b,c,d,e,f,g]:=by
 match l,h with
 | [a,b,c,d,e,f,g],_ => exact⟨a,b,c,d,e,f,g,rfl⟩
theorem getD_range {α:Type} (f:Nat->α) (n i:Nat) (z:α) (h:i<n):((List.range n).map f).getD i z=f i:=by simp[List.getD,h]
theorem openTables {v:Value} {x:DataW H × List MemPlace} (h:DataW.trod enc Tryz.prog w 0 spare held fuel 22 [v]=some x) (hw:∀ n∈x.1.weights Tryz.prog 22,n<=reachBytes) :
  ∃ ao cap ts,v=.slice ao (List.length ts) cap/\TablesAt w ao ts/\ts.length*48<=140737488351232:=by
 rcases open_slice Tryz.underlying22 h with⟨hcs,_⟩ | ⟨a,len,cap,m,n,D,Pl,hcs,_,hl,hm,hmm,hx,hel⟩
 ·simp at hcs;subst hcs;exact⟨none,0,[],rfl,⟨by simp,fun i hi=>absurd hi (by simp)⟩,by simp⟩
 ·simp at hcs;subst hcs;have hlm:len<=m:=by rw[hmm]; split <;> omega
  have hb:len*48<=140737488351232:=by
   have h2:=hw ((((List.range len).map D).length+((List.range (m-len)).map fun j=>D (len+j)).length)*Tryz.prog.bytesOf 95) (by rw[hx]; simp[DataW.weights,Tryz.underlying22]);rw[Tryz.bytes95] at h2;simp only[List.length_map,List.length_range,reachBytes] at h2;omega
  have each:∀ i,i<len->∃ t:TableD,w.cell? ((a.add (i*6)).add 0)=some (.int .i64 t.cols)/\w.cell? ((a.add (i*6)).add 1)=some (.int .i64 t.rows)/\w.cell? ((a.add (i*6)).add 2)=some (.int .i64 t.k0)/\
    w.cell? ((a.add (i*6)).add 3)=some (.int .i64 t.k1)/\w.cell? ((a.add (i*6)).add 4)=some (.int .i64 t.k2)/\w.cell? ((a.add (i*6)).add 5)=some (.int .i64 t.k3):=by
   intro i hi;obtain⟨cs',h1,h2⟩:=hel i (by omega);rw[Tryz.cells95] at h1;obtain⟨_,hlen,hcell⟩:=World.cells?_some h1;obtain⟨xs,k,hk,hxy,_,hxl,hf⟩:=DataW.trod_struct Tryz.underlying95 h2;obtain⟨y0,y1,y2,rfl⟩:=list3 hxl;obtain⟨v0,v1,v2,v3,v4,v5,rfl⟩:=list6 hlen
   ·skip;have q0:=hf 0 _ rfl;have q1:=hf 1 _ rfl;have q2:=hf 2 _ rfl;simp[Tryz.cells3,Tryz.cells93] at q0 q1 q2;obtain⟨n0,e0,_,_⟩:=DataW.trod_int Tryz.underlying3 q0;obtain⟨n1,e1,_,_⟩:=DataW.trod_int Tryz.underlying3 q1;obtain⟨zs,k2,_,_,_,hzl,hz⟩:=DataW.trod_array Tryz.underlying93 q2;obtain⟨z0,z1,z2,z3,rfl⟩:=list4 hzl
    ·skip;have r0:=hz 0 (by omega);have r1:=hz 1 (by omega);have r2:=hz 2 (by omega);have r3:=hz 3 (by omega);simp[Tryz.cells3] at r0 r1 r2 r3;obtain⟨n2,e2,_,_⟩:=DataW.trod_int Tryz.underlying3 r0;obtain⟨n3,e3,_,_⟩:=DataW.trod_int Tryz.underlying3 r1;obtain⟨n4,e4,_,_⟩:=DataW.trod_int Tryz.underlying3 r2;obtain⟨n5,e5,_,_⟩:=DataW.trod_int Tryz.underlying3 r3;simp at e0 e1 e2 e3 e4 e5;subst e0 e1 e2 e3 e4 e5;exact⟨⟨n0,n1,n2,n3,n4,n5⟩,hcell 0 (by omega),hcell 1 (by omega),hcell 2 (by omega),hcell 3 (by omega),hcell 4 (by omega),hcell 5 (by omega)⟩
  haveI:Inhabited TableD:=⟨tz⟩
  obtain⟨T,hT⟩:=choose_lt (α:=TableD) each;have hlen:((List.range len).map T).length=len:=by simp
  refine⟨some a,cap,(List.range len).map T,by rw[hlen],⟨by omega,fun i hi=>?_⟩,by omega⟩;have hi':i<len:=by omega
  have h0:=(hT 0 (by omega)).1;have ha:∃ b off,a=(aD b off):=by
   rw[Nat.zero_mul] at h0;have e:(a.add 0).add 0=a.add 0:=by simp[Addr.add]
   rw[e] at h0;exact addr_none h0
  obtain⟨b,off,rfl⟩:=ha;have ht:=hT i hi';simp only[addr_add',Nat.add_zero] at ht;rw[getD_range T len i tz hi'];exact⟨b,off,rfl,ht⟩
theorem openConds {v:Value} {x:DataW H × List MemPlace} (h:DataW.trod enc Tryz.prog w 0 spare held fuel 138 [v]=some x) (hw:∀ n∈x.1.weights Tryz.prog 138,n<=reachBytes) :
  ∃ c:ClauseV,v=c.val/\CondsAt w c.ad c.cs/\c.cs.length*40<=140737488351232:=by
 rcases open_slice Tryz.underlying138 h with⟨hcs,_⟩ | ⟨a,len,cap,m,n,D,Pl,hcs,_,hl,hm,hmm,hx,hel⟩
 ·simp at hcs;subst hcs;exact⟨⟨none,0,[]⟩,rfl,⟨by simp,fun i hi=>absurd hi (by simp)⟩,by simp⟩
 ·simp at hcs;subst hcs;have hlm:len<=m:=by rw[hmm]; split <;> omega
  have hb:len*40<=140737488351232:=by
   have h2:=hw ((((List.range len).map D).length+((List.range (m-len)).map fun j=>D (len+j)).length)*Tryz.prog.bytesOf 137) (by rw[hx]; simp[DataW.weights,Tryz.underlying138]);rw[Tryz.bytes137] at h2;simp only[List.length_map,List.length_range,reachBytes] at h2;omega
  have each:∀ i,i<len->∃ t:CondD,w.cell? ((a.add (i*5)).add 0)=some (.bool t.not)/\w.cell? ((a.add (i*5)).add 1)=some (.int .i64 t.op)/\w.cell? ((a.add (i*5)).add 2)=some (.int .i64 t.left)/\
    w.cell? ((a.add (i*5)).add 3)=some (.bool t.const)/\w.cell? ((a.add (i*5)).add 4)=some (.int .i64 t.right):=by
   intro i hi;obtain⟨cs',h1,h2⟩:=hel i (by omega);rw[Tryz.cells137] at h1;obtain⟨_,hlen,hcell⟩:=World.cells?_some h1;obtain⟨xs,k,hk,hxy,_,hxl,hf⟩:=DataW.trod_struct Tryz.underlying137 h2;obtain⟨y0,y1,y2,y3,y4,rfl⟩:=list5 hxl;obtain⟨v0,v1,v2,v3,v4,rfl⟩:=list5 hlen
   ·skip;have q0:=hf 0 _ rfl;have q1:=hf 1 _ rfl;have q2:=hf 2 _ rfl;have q3:=hf 3 _ rfl;have q4:=hf 4 _ rfl;simp[Tryz.cells3,Tryz.cells4] at q0 q1 q2 q3 q4;obtain⟨n0,e0,_⟩:=DataW.trod_bool Tryz.underlying4 q0;obtain⟨n1,e1,_,_⟩:=DataW.trod_int Tryz.underlying3 q1;obtain⟨n2,e2,_,_⟩:=DataW.trod_int Tryz.underlying3 q2;obtain⟨n3,e3,_⟩:=DataW.trod_bool Tryz.underlying4 q3;obtain⟨n4,e4,_,_⟩:=DataW.trod_int Tryz.underlying3 q4;simp at e0 e1 e2 e3 e4;subst e0 e1 e2 e3 e4;exact⟨⟨n0,n1,n2,n3,n4⟩,hcell 0 (by omega),hcell 1 (by omega),hcell 2 (by omega),hcell 3 (by omega),hcell 4 (by omega)⟩
  haveI:Inhabited CondD:=⟨cz⟩
  obtain⟨T,hT⟩:=choose_lt (α:=CondD) each;have hlen:((List.range len).map T).length=len:=by simp
  refine⟨⟨some a,cap,(List.range len).map T⟩,by show _=Value.slice _ ((List.range len).map T).length _; rw[hlen],⟨by show ((List.range len).map T).length<=_; omega,fun i hi=>?_⟩,by show ((List.range len).map T).length*40<=_; omega⟩;have hi':i<len:=by
   have:i<((List.range len).map T).length:=hi;omega
  have h0:=(hT 0 (by omega)).1;have ha:∃ b off,a=(aD b off):=by
   rw[Nat.zero_mul] at h0;have e:(a.add 0).add 0=a.add 0:=by simp[Addr.add]
   rw[e] at h0;exact addr_none h0
  obtain⟨b,off,rfl⟩:=ha;have ht:=hT i hi';simp only[addr_add',Nat.add_zero] at ht
  show ∃ b' off',_/\_
  rw[getD_range T len i cz hi'];exact⟨b,off,rfl,ht⟩
open Go.RowKit Go.Scout Go.Deep Go.ChangeShapes Go.WideShapes Go.ChangeAt
variable {H:Type} {enc:TypeId × Value->H} {w:World} {spare:Nat->Bool} {held:Bool} {fuel:Nat}
theorem weightsAll_mem {P:Program} {e:TypeId} {d:DataW H} {n:Nat} (hn:n∈d.weights P e):∀ {ds:List (DataW H)},d∈ds->n∈DataW.weightsAll P e ds
 | [],h => absurd h (by simp)
 | x::r,h => by
  rw[DataW.weightsAll];rcases List.mem_cons.1 h with rfl | h'
  ·exact List.mem_append_left _ hn
  ·exact List.mem_append_right _ (weightsAll_mem hn h')
theorem openClauses {v:Value} {x:DataW H × List MemPlace} (h:DataW.trod enc Tryz.prog w 0 spare held fuel 24 [v]=some x) (hw:∀ n∈x.1.weights Tryz.prog 24,n<=reachBytes) :
  ∃ ao cap ls,v=.slice ao (List.length ls) cap/\ClausesAt w ao ls/\ls.length*24<=140737488351232/\∀ i,i<ls.length->(ls.getD i lz).cs.length*40<=140737488351232:=by
 rcases open_slice1 Tryz.underlying24 Tryz.cells140 h with⟨hcs,_⟩ | ⟨a,len,cap,m,n,V,D,Pl,hcs,_,hl,hm,hmm,hx,hel⟩
 ·simp at hcs;subst hcs;exact⟨none,0,[],rfl,⟨by simp,fun i hi=>absurd hi (by simp),fun i hi=>absurd hi (by simp)⟩,by simp,fun i hi=>absurd hi (by simp)⟩
 ·simp at hcs;subst hcs;have hlm:len<=m:=by rw[hmm]; split <;> omega
  have hb:len*24<=140737488351232:=by
   have h2:=hw ((((List.range len).map D).length+((List.range (m-len)).map fun j=>D (len+j)).length)*Tryz.prog.bytesOf 140) (by rw[hx]; simp[DataW.weights,Tryz.underlying24]);rw[Tryz.bytes140] at h2;simp only[List.length_map,List.length_range,reachBytes] at h2;omega
  have each:∀ i,i<len->∃ c:ClauseV,w.cell? (a.add i)=some c.val/\CondsAt w c.ad c.cs/\c.cs.length*40<=140737488351232:=by
   intro i hi;obtain⟨h1,h2⟩:=hel i (by omega);obtain⟨xs,k,hk,hxy,_,hxl,hf⟩:=DataW.trod_struct Tryz.underlying140 h2;have hx1:xs.length=1:=hxl;obtain⟨y0,rfl⟩:=List.length_eq_one_iff.1 hx1;have q0:=hf 0 _ rfl;simp[Tryz.cells138] at q0;obtain⟨c,hc,hcd,hcl⟩:=openConds q0 (fun nn hnn=>by
    refine hw nn ?_;rw[hx];have hD:D i=.agg [y0.1]:=by
     have:=congrArg Prod.fst hxy
     simpa using this
    have hmem:nn∈(D i).weights Tryz.prog 140:=by
     rw[hD];simp[DataW.weights,Tryz.underlying140,DataW.weightsEach,hnn]
    have hall:=weightsAll_mem hmem (ds:=(List.range len).map D) (List.mem_map.2 ⟨i,List.mem_range.2 hi,rfl⟩);simp only[DataW.weights,Tryz.underlying24];exact List.mem_cons_of_mem _ (List.mem_append_left _ hall))
   exact⟨c,by rw[<- hc]; exact h1,hcd,hcl⟩
  haveI:Inhabited ClauseV:=⟨lz⟩
  obtain⟨T,hT⟩:=choose_lt (α:=ClauseV) each;have hlen:((List.range len).map T).length=len:=by simp
  refine⟨some a,cap,(List.range len).map T,by rw[hlen],⟨by omega,fun i hi=>?_,fun i hi=>?_⟩,by omega,fun i hi=>?_⟩
  ·have hi':i<len:=by omega
   obtain⟨b,off,rfl⟩:=addr_none (hT 0 (by omega)).1;have ht:=(hT i hi').1;rw[addr_add'] at ht;refine⟨b,off,rfl,?_⟩
   show _=some (((List.range len).map T).getD i lz).val
   rw[getD_range T len i lz hi'];exact ht
  ·have hi':i<len:=by omega
   rw[getD_range T len i lz hi'];exact (hT i hi').2.1
  ·have hi':i<len:=by omega
   rw[getD_range T len i lz hi'];exact (hT i hi').2.2
theorem openQuery {r:Reach} {b0:Nat} {v:Value} {d:DataW H} {p:List MemPlace} (hv:Value.okWide Tryz.prog w r b0 26 v) (h:DataW.Trod enc Tryz.prog w 0 spare held 26 v d p) (hw:∀ n∈d.weights Tryz.prog 26,n<=reachBytes) :
  ∃ q:QueryV,v=.agg q.cells/\q.At w/\q.src.xs.length*8<=140737488351232/\q.keys.xs.length*8<=140737488351232/\q.sums.xs.length*8<=140737488351232/\q.sel.xs.length*8<=140737488351232/\q.ord.xs.length*8<=140737488351232/\
   q.wh.length*24<=140737488351232/\∀ i,i<q.wh.length->(q.wh.getD i lz).cs.length*40<=140737488351232:=by
 obtain⟨cs,rfl,hsz⟩:=okWide_struct Tryz.underlying26 hv;rw[Tryz.cells26] at hsz;obtain⟨fuel,hf⟩:=h;obtain⟨cl,rfl⟩:∃ l:List Value,cs=l.toArray:=⟨cs.toList,by simp⟩
 obtain⟨v0,v1,v2,v3,v4,v5,v6,rfl⟩:=list7 (by simpa using hsz);obtain⟨xs,k,hk,hxy,_,hxl,hff⟩:=DataW.trod_struct Tryz.underlying26 hf;obtain⟨y0,y1,y2,y3,y4,y5,y6,rfl⟩:=list7 hxl;have q0:=hff 0 _ rfl;have q1:=hff 1 _ rfl;have q2:=hff 2 _ rfl;have q3:=hff 3 _ rfl;have q4:=hff 4 _ rfl;have q5:=hff 5 _ rfl;have q6:=hff 6 _ rfl;simp[Value.cells,Tryz.cells23,Tryz.cells24,Tryz.cells4] at q0 q1 q2 q3 q4 q5 q6;have hd:d=.agg [y0.1,y1.1,y2.1,y3.1,y4.1,y5.1,y6.1]:=by
  have:=congrArg Prod.fst hxy
  simpa using this
 have hwe:∀ n,n∈DataW.weightsEach Tryz.prog [23,24,4,23,23,23,23] [y0.1,y1.1,y2.1,y3.1,y4.1,y5.1,y6.1]->n<=reachBytes:=fun n hn=>hw n (by
  rw[hd];simp only[DataW.weights,Tryz.underlying26];exact hn)
 have wm:=fun (j:Nat) (t:TypeId) (dd:DataW H) (h1:[23,24,4,23,23,23,23][j]? = some t) (h2:[y0.1,y1.1,y2.1,y3.1,y4.1,y5.1,y6.1][j]? = some dd)=>fun n hn=>hwe n (DataW.weights_mem_each h1 h2 n hn)
 obtain⟨i0,rfl,a0,b0'⟩:=openInts q0 (wm 0 _ _ rfl rfl);obtain⟨wad,wcap,ls,rfl,a1,b1,b1'⟩:=openClauses q1 (wm 1 _ _ rfl rfl);obtain⟨gb,e2,_⟩:=DataW.trod_bool Tryz.underlying4 q2;obtain⟨i3,rfl,a3,b3⟩:=openInts q3 (wm 3 _ _ rfl rfl);obtain⟨i4,rfl,a4,b4⟩:=openInts q4 (wm 4 _ _ rfl rfl);obtain⟨i5,rfl,a5,b5⟩:=openInts q5 (wm 5 _ _ rfl rfl);obtain⟨i6,rfl,a6,b6⟩:=openInts q6 (wm 6 _ _ rfl rfl);simp at e2;subst e2;exact⟨⟨i0,wad,wcap,ls,gb,i3,i4,i5,i6⟩,rfl,⟨a0,a1,a3,a4,a5,a6⟩,b0',b3,b4,b5,b6,b1,b1'⟩
theorem Tryz.cells58:Tryz.prog.cellsOf 58=7:=by kernel_rfl
theorem Tryz.bytes58:Tryz.prog.bytesOf 58=88:=by kernel_rfl
variable {H:Type} {enc:TypeId × Value->H} {w:World} {spare:Nat->Bool} {held:Bool} {fuel:Nat}
theorem openNodes {v:Value} {x:DataW H × List MemPlace} (h:DataW.trod enc Tryz.prog w 0 spare held fuel 27 [v]=some x) (hw:∀ n∈x.1.weights Tryz.prog 27,n<=reachBytes) :
  ∃ ao cap ns,v=.slice ao (List.length ns) cap/\NodesAt w ao ns/\ns.length*88<=140737488351232/\∀ i,i<ns.length->(ns.getD i nz).cl.xs.length*8<=140737488351232/\(ns.getD i nz).co.xs.length*8<=140737488351232:=by
 rcases open_slice Tryz.underlying27 h with⟨hcs,_⟩ | ⟨a,len,cap,m,n,D,Pl,hcs,_,hl,hm,hmm,hx,hel⟩
 ·simp at hcs;subst hcs;exact⟨none,0,[],rfl,⟨by simp,fun i hi=>absurd hi (by simp)⟩,by simp,fun i hi=>absurd hi (by simp)⟩
 ·simp at hcs;subst hcs;have hlm:len<=m:=by rw[hmm]; split <;> omega
  have hb:len*88<=140737488351232:=by
   have h2:=hw ((((List.range len).map D).length+((List.range (m-len)).map fun j=>D (len+j)).length)*Tryz.prog.bytesOf 58) (by rw[hx]; simp[DataW.weights,Tryz.underlying27]);rw[Tryz.bytes58] at h2;simp only[List.length_map,List.length_range,reachBytes] at h2;omega
  have each:∀ i,i<len->∃ t:NodeV,(w.cell? ((a.add (i*7)).add 0)=some (.int .i64 t.kind)/\w.cell? ((a.add (i*7)).add 1)=some (.int .i64 t.l)/\w.cell? ((a.add (i*7)).add 2)=some (.int .i64 t.r)/\
    w.cell? ((a.add (i*7)).add 3)=some (.int .i64 t.source)/\w.cell? ((a.add (i*7)).add 4)=some t.cl.val/\w.cell? ((a.add (i*7)).add 5)=some (.int .i64 t.key)/\w.cell? ((a.add (i*7)).add 6)=some t.co.val/\t.cl.At w/\t.co.At w)/\
    t.cl.xs.length*8<=140737488351232/\t.co.xs.length*8<=140737488351232:=by
   intro i hi;obtain⟨cs',h1,h2⟩:=hel i (by omega);rw[Tryz.cells58] at h1;obtain⟨_,hlen,hcell⟩:=World.cells?_some h1;obtain⟨xs,k,hk,hxy,_,hxl,hf⟩:=DataW.trod_struct Tryz.underlying58 h2;obtain⟨y0,y1,y2,y3,y4,y5,y6,rfl⟩:=list7 hxl;obtain⟨v0,v1,v2,v3,v4,v5,v6,rfl⟩:=list7 hlen;have q0:=hf 0 _ rfl;have q1:=hf 1 _ rfl;have q2:=hf 2 _ rfl;have q3:=hf 3 _ rfl;have q4:=hf 4 _ rfl;have q5:=hf 5 _ rfl;have q6:=hf 6 _ rfl;simp[Tryz.cells3,Tryz.cells23] at q0 q1 q2 q3 q4 q5 q6;have hD:D i=.agg [y0.1,y1.1,y2.1,y3.1,y4.1,y5.1,y6.1]:=by
    have:=congrArg Prod.fst hxy
    simpa using this
   have hwe:∀ nn,nn∈DataW.weightsEach Tryz.prog [3,3,3,3,23,3,23] [y0.1,y1.1,y2.1,y3.1,y4.1,y5.1,y6.1]->nn<=reachBytes:=fun nn hnn=>by
    refine hw nn ?_;rw[hx];have hmem:nn∈(D i).weights Tryz.prog 58:=by
     rw[hD];simp only[DataW.weights,Tryz.underlying58];exact hnn
    have hall:=weightsAll_mem hmem (ds:=(List.range len).map D) (List.mem_map.2 ⟨i,List.mem_range.2 hi,rfl⟩);simp only[DataW.weights,Tryz.underlying27];exact List.mem_cons_of_mem _ (List.mem_append_left _ hall)
   have wm:=fun (j:Nat) (t:TypeId) (dd:DataW H) (e1:[3,3,3,3,23,3,23][j]? = some t) (e2:[y0.1,y1.1,y2.1,y3.1,y4.1,y5.1,y6.1][j]? = some dd)=>fun nn hnn=>hwe nn (DataW.weights_mem_each e1 e2 nn hnn)
   obtain⟨n0,e0,_,_⟩:=DataW.trod_int Tryz.underlying3 q0;obtain⟨n1,e1,_,_⟩:=DataW.trod_int Tryz.underlying3 q1;obtain⟨n2,e2,_,_⟩:=DataW.trod_int Tryz.underlying3 q2;obtain⟨n3,e3,_,_⟩:=DataW.trod_int Tryz.underlying3 q3;obtain⟨i4,rfl,a4,b4⟩:=openInts q4 (wm 4 _ _ rfl rfl);obtain⟨n5,e5,_,_⟩:=DataW.trod_int Tryz.underlying3 q5;obtain⟨i6,rfl,a6,b6⟩:=openInts q6 (wm 6 _ _ rfl rfl);simp at e0 e1 e2 e3 e5;subst e0 e1 e2 e3 e5;exact⟨⟨n0,n1,n2,n3,i4,n5,i6⟩,⟨hcell 0 (by omega),hcell 1 (by omega),hcell 2 (by omega),hcell 3 (by omega),hcell 4 (by omega),hcell 5 (by omega),hcell 6 (by omega),a4,a6⟩,b4,b6⟩
  haveI:Inhabited NodeV:=⟨nz⟩
  obtain⟨T,hT⟩:=choose_lt (α:=NodeV) each;have hlen:((List.range len).map T).length=len:=by simp
  refine⟨some a,cap,(List.range len).map T,by rw[hlen],⟨by omega,fun i hi=>?_⟩,by omega,fun i hi=>?_⟩
  ·have hi':i<len:=by omega
   have h0:=(hT 0 (by omega)).1.1;have ha:∃ b off,a=(aD b off):=by
    rw[Nat.zero_mul] at h0;have e:(a.add 0).add 0=a.add 0:=by simp[Addr.add]
    rw[e] at h0;exact addr_none h0
   obtain⟨b,off,rfl⟩:=ha;have ht:=(hT i hi').1;simp only[addr_add',Nat.add_zero] at ht;rw[getD_range T len i nz hi'];exact⟨b,off,rfl,ht⟩
  ·have hi':i<len:=by omega
   rw[getD_range T len i nz hi'];exact (hT i hi').2
end Go.Proofs.YtlpbelhfpoilpaaGreatDoor
