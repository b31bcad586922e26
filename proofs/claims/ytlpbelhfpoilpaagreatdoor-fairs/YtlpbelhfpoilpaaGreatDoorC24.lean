import Derived.Test.YtlpbelhfpoilpaaGreatDoorC13
import Derived.Test.YtlpbelhfpoilpaaGreatDoorC23
set_option linter.all false
set_option maxRecDepth 100000
set_option maxHeartbeats 16000000
namespace Go.Scout
open Go.RowKit
def mergeP (ts:List TableD) (q:QueryV) (n:NodeV) (l r:PartD):Bool:=
 (keyP ts q n l.sources r.sources).2.2&&joinP ts q n l.sources r.sources&&startsB l.order [(keyP ts q n l.sources r.sources).1]&&startsB r.order [(keyP ts q n l.sources r.sources).2.1]
end Go.Scout
namespace Go.Proofs.YtlpbelhfpoilpaaGreatDoor
open Go.RowKit Go.Scout
theorem mergeFits_any (f:FactsV) (ts:List TableD) (q:QueryV) (n:NodeV) (l r:PartV) (w:World) (ok:Ok ts q) (hf:f.At ts q w) (hn:n.cl.At w) (hl:l.Ok w) (hr:r.Ok w) :
  Calls Tryz.prog 224 #[.agg (f.cells ts q),.agg n.cells,.agg l.cells,.agg r.cells] w fun e w'=>e=.returned (.bool (mergeP ts q n l.d r.d))/\Below w.heap.size w w':=by
 obtain⟨v0,v1,v2,v3,v4,v5,v6,v7,v8,v9,v10,v11,v12,hFC,-⟩:=factsCells f ts q;have hNC:n.cells=#[.int .i64 n.kind,.int .i64 n.l,.int .i64 n.r,.int .i64 n.source,n.cl.val,.int .i64 n.key,n.co.val]:=rfl;have hLC:l.cells=#[.int .i64 l.kind,.int .u64 (l.sources:Int),.int .u64 (l.clauses:Int),l.order.val,.int .u64 (l.size:Int),.int .u64 (l.cost:Int)]:=rfl;have hRC:r.cells=#[.int .i64 r.kind,.int .u64 (r.sources:Int),.int .u64 (r.clauses:Int),r.order.val,.int .u64 (r.size:Int),.int .u64 (r.cost:Int)]:=rfl;obtain⟨w1,hw1⟩:∃ x,w.alloc (.cells (f.cells ts q) 105)=x:=⟨_,rfl⟩
 have hk1:Below w.heap.size w w1:=by rw[<- hw1]; exact bQ2 _ _
 have hg1:GB w1 w.heap.size 105 (f.cells ts q):=by rw[<- hw1]; exact bQ3 _ _
 obtain⟨w2,hw2⟩:∃ x,w1.alloc (.cells n.cells 58)=x:=⟨_,rfl⟩
 have hk2:Below w1.heap.size w1 w2:=by rw[<- hw2]; exact bQ2 _ _
 have hg2:GB w2 w1.heap.size 58 n.cells:=by rw[<- hw2]; exact bQ3 _ _
 obtain⟨w3,hw3⟩:∃ x,w2.alloc (.cells l.cells 110)=x:=⟨_,rfl⟩
 have hk3:Below w2.heap.size w2 w3:=by rw[<- hw3]; exact bQ2 _ _
 have hg3:GB w3 w2.heap.size 110 l.cells:=by rw[<- hw3]; exact bQ3 _ _
 obtain⟨w4,hw4⟩:∃ x,w3.alloc (.cells r.cells 110)=x:=⟨_,rfl⟩
 have hk4:Below w3.heap.size w3 w4:=by rw[<- hw4]; exact bQ2 _ _
 have hg4:GB w4 w3.heap.size 110 r.cells:=by rw[<- hw4]; exact bQ3 _ _
 have hc3:=hk4;have hc2:Below w2.heap.size w2 w4:=bQ1 hk3 hc3;have hc1:Below w1.heap.size w1 w4:=bQ1 hk2 hc2;have hc0:Below w.heap.size w w4:=bQ1 hk1 hc1;have gg1:GB w4 w.heap.size 105 (f.cells ts q):=hg1.of (hc1.block _ hg1.lt);have gg2:GB w4 w1.heap.size 58 n.cells:=hg2.of (hc2.block _ hg2.lt);have g2_0:w4.cell? (aD w1.heap.size 0)=some (.int .i64 n.kind):=gg2.cell 0;have g2_1:w4.cell? (aD w1.heap.size 1)=some (.int .i64 n.l):=gg2.cell 1;have g2_2:w4.cell? (aD w1.heap.size 2)=some (.int .i64 n.r):=gg2.cell 2;have g2_3:w4.cell? (aD w1.heap.size 3)=some (.int .i64 n.source):=gg2.cell 3;have g2_4:w4.cell? (aD w1.heap.size 4)=some (n.cl.val):=gg2.cell 4;have g2_5:w4.cell? (aD w1.heap.size 5)=some (.int .i64 n.key):=gg2.cell 5;have g2_6:w4.cell? (aD w1.heap.size 6)=some (n.co.val):=gg2.cell 6;have gg3:GB w4 w2.heap.size 110 l.cells:=hg3.of (hc3.block _ hg3.lt);have g3_0:w4.cell? (aD w2.heap.size 0)=some (.int .i64 l.kind):=gg3.cell 0;have g3_1:w4.cell? (aD w2.heap.size 1)=some (.int .u64 (l.sources:Int)):=gg3.cell 1;have g3_2:w4.cell? (aD w2.heap.size 2)=some (.int .u64 (l.clauses:Int)):=gg3.cell 2;have g3_3:w4.cell? (aD w2.heap.size 3)=some (l.order.val):=gg3.cell 3;have g3_4:w4.cell? (aD w2.heap.size 4)=some (.int .u64 (l.size:Int)):=gg3.cell 4;have g3_5:w4.cell? (aD w2.heap.size 5)=some (.int .u64 (l.cost:Int)):=gg3.cell 5;have gg4:=hg4;have g4_0:w4.cell? (aD w3.heap.size 0)=some (.int .i64 r.kind):=gg4.cell 0;have g4_1:w4.cell? (aD w3.heap.size 1)=some (.int .u64 (r.sources:Int)):=gg4.cell 1;have g4_2:w4.cell? (aD w3.heap.size 2)=some (.int .u64 (r.clauses:Int)):=gg4.cell 2;have g4_3:w4.cell? (aD w3.heap.size 3)=some (r.order.val):=gg4.cell 3;have g4_4:w4.cell? (aD w3.heap.size 4)=some (.int .u64 (r.size:Int)):=gg4.cell 4;have g4_5:w4.cell? (aD w3.heap.size 5)=some (.int .u64 (r.cost:Int)):=gg4.cell 5;have g1_0:w4.cell? (aD w.heap.size 0)=some v0:=by rw[hFC] at gg1; exact gg1.cell 0
 have g1_1:w4.cell? (aD w.heap.size 1)=some v1:=by rw[hFC] at gg1; exact gg1.cell 1
 have g1_2:w4.cell? (aD w.heap.size 2)=some v2:=by rw[hFC] at gg1; exact gg1.cell 2
 have g1_3:w4.cell? (aD w.heap.size 3)=some v3:=by rw[hFC] at gg1; exact gg1.cell 3
 have g1_4:w4.cell? (aD w.heap.size 4)=some v4:=by rw[hFC] at gg1; exact gg1.cell 4
 have g1_5:w4.cell? (aD w.heap.size 5)=some v5:=by rw[hFC] at gg1; exact gg1.cell 5
 have g1_6:w4.cell? (aD w.heap.size 6)=some v6:=by rw[hFC] at gg1; exact gg1.cell 6
 have g1_7:w4.cell? (aD w.heap.size 7)=some v7:=by rw[hFC] at gg1; exact gg1.cell 7
 have g1_8:w4.cell? (aD w.heap.size 8)=some v8:=by rw[hFC] at gg1; exact gg1.cell 8
 have g1_9:w4.cell? (aD w.heap.size 9)=some v9:=by rw[hFC] at gg1; exact gg1.cell 9
 have g1_10:w4.cell? (aD w.heap.size 10)=some v10:=by rw[hFC] at gg1; exact gg1.cell 10
 have g1_11:w4.cell? (aD w.heap.size 11)=some v11:=by rw[hFC] at gg1; exact gg1.cell 11
 have g1_12:w4.cell? (aD w.heap.size 12)=some v12:=by rw[hFC] at gg1; exact gg1.cell 12
 have hKC:=keyColumns_any f ts q n l r w4 ok (hf.below hc0) (IntsAt.below hc0 hn) hl.sources hr.sources;have HJF:Hid (∀ x,Below w4.heap.size w4 x->_):=fun x hb=>joinFits_any f ts q n l r x ok (hf.below (bQ1 hc0 hb)) (IntsAt.below (bQ1 hc0 hb) hn) hl.sources hr.sources
 have HBL:Hid (∀ x b c,Below w4.heap.size w4 x->x.cell? (aD b 0)=some (.int .i64 c)->Calls Tryz.prog 227 #[.slice l.order.ad l.order.xs.length l.order.cap,.slice (some (aD b 0)) 1 1] x fun e w'=>e=.returned (.bool (startsB l.order.xs [c]))/\Below x.heap.size x w'):=
  fun x b c hb h0=>begins_any l.order.ad (some (aD b 0)) l.order.cap 1 l.order.xs [c] x (IntsAt.below (bQ1 hc0 hb) hl.order) ⟨by simp,fun i hi=>⟨b,0,rfl,by
   have hi':i<1:=hi;obtain rfl:i=0:=by omega
   exact h0⟩⟩ hl.cap
 have HBR:Hid (∀ x b c,Below w4.heap.size w4 x->x.cell? (aD b 0)=some (.int .i64 c)->Calls Tryz.prog 227 #[.slice r.order.ad r.order.xs.length r.order.cap,.slice (some (aD b 0)) 1 1] x fun e w'=>e=.returned (.bool (startsB r.order.xs [c]))/\Below x.heap.size x w'):=
  fun x b c hb h0=>begins_any r.order.ad (some (aD b 0)) r.order.cap 1 r.order.xs [c] x (IntsAt.below (bQ1 hc0 hb) hr.order) ⟨by simp,fun i hi=>⟨b,0,rfl,by
   have hi':i<1:=hi;obtain rfl:i=0:=by omega
   exact h0⟩⟩ hr.cap
 have HME:Hid (mergeP ts q n l.d r.d=((keyP ts q n l.sources r.sources).2.2&&joinP ts q n l.sources r.sources&&startsB l.order.xs [(keyP ts q n l.sources r.sources).1]&&startsB r.order.xs [(keyP ts q n l.sources r.sources).2.1])):=rfl;have HC:Hid _:=hc0;rw[hFC,hNC,hLC,hRC] at hKC HJF;rw[hFC] at hw1;rw[hNC] at hw2;rw[hLC] at hw3;rw[hRC] at hw4;rw[hFC,hNC,hLC,hRC];generalize mergeP ts q n l.d r.d=MP at *;generalize joinP ts q n l.sources r.sources=JP at *;generalize keyP ts q n l.sources r.sources=KP at *;clear hFC hNC hLC hRC hg1 hg2 hg3 hg4 gg1 gg2 gg3 gg4 hk1 hk2 hk3 hk4 hc0 hc1 hc2 hc3 hf hn hl hr ok;obtain⟨ka,kb,kok⟩:=KP;obtain⟨nk,nl,nr,ns,⟨na,nc,nx⟩,ny,⟨oa,oc,ox⟩⟩:=n;obtain⟨lk,ls,lcl,⟨la,lcp,lx⟩,lz,lco⟩:=l;obtain⟨rk,rs,rcl,⟨ra,rcp,rx⟩,rz,rco⟩:=r;unfold IntsV.val at *;simp only at *
 cases kok with
 | false =>
  have HV:Hid (MP=false):=by show _=_; rw[HME.out]; rfl
  clear HME HJF HBL HBR;go_enter Tryz.func224,Tryz.ntmps224;go_wp2_with fail;refine Calls.mono hKC ?_;clear hKC;rintro e w5 ⟨rfl,hb5⟩;have HB5:Hid _:=bQ1 HC.out hb5;clear hb5;go_wp2;go_ret;exact⟨ret_bool HV.out.symm,HB5.out⟩
 | true =>
  go_enter Tryz.func224,Tryz.ntmps224;go_wp2_with fail;refine Calls.mono hKC ?_;clear hKC hw1 hw2 hw3 hw4;rintro e w5 ⟨rfl,hb5⟩;have f1_0:=cB hb5 g1_0;have f1_1:=cB hb5 g1_1;have f1_2:=cB hb5 g1_2;have f1_3:=cB hb5 g1_3;have f1_4:=cB hb5 g1_4;have f1_5:=cB hb5 g1_5;have f1_6:=cB hb5 g1_6;have f1_7:=cB hb5 g1_7;have f1_8:=cB hb5 g1_8;have f1_9:=cB hb5 g1_9;have f1_10:=cB hb5 g1_10;have f1_11:=cB hb5 g1_11;have f1_12:=cB hb5 g1_12;have f2_0:=cB hb5 g2_0;have f2_1:=cB hb5 g2_1;have f2_2:=cB hb5 g2_2;have f2_3:=cB hb5 g2_3;have f2_4:=cB hb5 g2_4;have f2_5:=cB hb5 g2_5;have f2_6:=cB hb5 g2_6;have f3_0:=cB hb5 g3_0;have f4_0:=cB hb5 g4_0;have f3_1:=cB hb5 g3_1;have f4_1:=cB hb5 g4_1;have f3_2:=cB hb5 g3_2;have f4_2:=cB hb5 g4_2;have f3_3:=cB hb5 g3_3;have f4_3:=cB hb5 g4_3;have f3_4:=cB hb5 g3_4;have f4_4:=cB hb5 g4_4;have f3_5:=cB hb5 g3_5;have f4_5:=cB hb5 g4_5;have hJF:=HJF.out w5 hb5;have HB5:Hid (Below w4.heap.size w4 w5):=hb5;have HC5:Hid _:=bQ1 HC.out hb5;clear hb5 g1_0 g1_1 g1_2 g1_3 g1_4 g1_5 g1_6 g1_7 g1_8 g1_9 g1_10 g1_11 g1_12 g2_0 g2_1 g2_2 g2_3 g2_4 g2_5 g2_6 g3_0 g3_1 g3_2 g3_3 g3_4 g3_5 g4_0 g4_1 g4_2 g4_3 g4_4 g4_5
  cases JP with
  | false =>
   have HV:Hid (MP=false):=by show _=_; rw[HME.out]; rfl
   clear HME HJF HBL HBR;go_wp2_with fail;refine Calls.mono hJF ?_;clear hJF;rintro e w6 ⟨rfl,hb6⟩;have HB6:Hid _:=bQ1 HC5.out hb6;clear hb6;go_wp2;go_ret;exact⟨ret_bool HV.out.symm,HB6.out⟩
  | true =>
   have HM2:Hid (MP=(startsB lx [ka]&&startsB rx [kb])):=by show _=_; rw[HME.out]; rfl
   clear HME HJF;go_wp2_with fail;refine Calls.mono hJF ?_;clear hJF;rintro e w6 ⟨rfl,hb6⟩;have e3:=cB hb6 f3_3;have e4:=cB hb6 f4_3;have HB6:Hid (Below w4.heap.size w4 w6):=bQ1 HB5.out hb6;have HC6:Hid _:=bQ1 HC5.out hb6;clear hb6 f1_0 f1_1 f1_2 f1_3 f1_4 f1_5 f1_6 f1_7 f1_8 f1_9 f1_10 f1_11 f1_12 f2_0 f2_1 f2_2 f2_3 f2_4 f2_5 f2_6 f3_0 f3_1 f3_2 f3_3 f3_4 f3_5 f4_0 f4_1 f4_2 f4_3 f4_4 f4_5;obtain⟨wa,hwa⟩:∃ x,w6.alloc (.cells #[.int .i64 ka] 3)=x:=⟨_,rfl⟩
   have hka:Below w6.heap.size w6 wa:=by rw[<- hwa]; exact bQ2 _ _
   have hB1:=HBL.out wa w6.heap.size ka (bQ1 HB6.out hka) (by rw[<- hwa]; simp);have HBA:Hid (Below w4.heap.size w4 wa):=bQ1 HB6.out hka;have HCA:Hid _:=bQ1 HC6.out hka;have e4a:=cB hka e4;clear hka;generalize startsB lx [ka]=S1 at *
   cases S1 with
   | false =>
    have HV:Hid (MP=false):=by show _=_; rw[HM2.out]; rfl
    clear HM2;go_wp2_with fail;refine Calls.mono hB1 ?_;clear hB1 hwa;rintro e w7 ⟨rfl,hb7⟩;have HB7:Hid _:=bQ1 HCA.out hb7;clear hb7;go_wp2;go_ret;exact⟨ret_bool HV.out.symm,HB7.out⟩
   | true =>
    have HV:Hid (MP=startsB rx [kb]):=by show _=_; rw[HM2.out]; rfl
    clear HM2;go_wp2_with fail;refine Calls.mono hB1 ?_;clear hB1 hwa;rintro e w7 ⟨rfl,hb7⟩;have e47:=cB hb7 e4a;have HB7:Hid (Below w4.heap.size w4 w7):=bQ1 HBA.out hb7;have HC7:Hid _:=bQ1 HCA.out hb7;clear hb7 e4 e4a e3;obtain⟨wb,hwb⟩:∃ x,w7.alloc (.cells #[.int .i64 kb] 3)=x:=⟨_,rfl⟩
    have hkb:Below w7.heap.size w7 wb:=by rw[<- hwb]; exact bQ2 _ _
    have hB2:=HBR.out wb w7.heap.size kb (bQ1 HB7.out hkb) (by rw[<- hwb]; simp);rw[<- HV.out] at hB2;have HCB:Hid _:=bQ1 HC7.out hkb;clear hkb HV;go_wp2_with fail;refine Calls.mono hB2 ?_;clear hB2 hwb;rintro e w8 ⟨rfl,hb8⟩;have HB8:Hid _:=bQ1 HCB.out hb8;clear hb8;go_wp2;go_ret;exact⟨rfl,HB8.out⟩
theorem fits_k4 (f:FactsV) (ts:List TableD) (q:QueryV) (n:NodeV) (ao:Option Addr) (cap:Nat) (ps:List PartV) (w:World) (ok:Ok ts q) (hf:f.At ts q w) (hcl:n.cl.At w) (hco:n.co.At w) (hcap:n.co.xs.length<=n.co.cap) (hp:PartsAt w ao ps) (hk:n.kind=4) (hl:ps.length=arity n.kind) :
  Calls Tryz.prog 151 #[.agg (f.cells ts q),.agg n.cells,.slice ao ps.length cap] w fun e w'=>e=.returned (.bool (fitsP ts q n (ps.getD 0 pvz).d (ps.getD 1 pvz).d))/\Below w.heap.size w w':=by
 obtain⟨v0,v1,v2,v3,v4,v5,v6,v7,v8,v9,v10,v11,v12,hFC,hv0,hv1,hv2,hv3,hv4,hv5,hv6,-⟩:=factsCells f ts q;have hNC:n.cells=#[.int .i64 n.kind,.int .i64 n.l,.int .i64 n.r,.int .i64 n.source,n.cl.val,.int .i64 n.key,n.co.val]:=rfl;obtain⟨w1,hw1⟩:∃ x,w.alloc (.cells (f.cells ts q) 105)=x:=⟨_,rfl⟩
 have hk1:Below w.heap.size w w1:=by rw[<- hw1]; exact bQ2 _ _
 have hg1:GB w1 w.heap.size 105 (f.cells ts q):=by rw[<- hw1]; exact bQ3 _ _
 obtain⟨w2,hw2⟩:∃ x,w1.alloc (.cells n.cells 58)=x:=⟨_,rfl⟩
 have hk2:Below w1.heap.size w1 w2:=by rw[<- hw2]; exact bQ2 _ _
 have hg2:GB w2 w1.heap.size 58 n.cells:=by rw[<- hw2]; exact bQ3 _ _
 have hc1:=hk2;have hc0:Below w.heap.size w w2:=bQ1 hk1 hc1;have gg1:GB w2 w.heap.size 105 (f.cells ts q):=hg1.of (hc1.block _ hg1.lt);have gg2:=hg2;have g2_0:w2.cell? (aD w1.heap.size 0)=some (.int .i64 n.kind):=gg2.cell 0;have g2_1:w2.cell? (aD w1.heap.size 1)=some (.int .i64 n.l):=gg2.cell 1;have g2_2:w2.cell? (aD w1.heap.size 2)=some (.int .i64 n.r):=gg2.cell 2;have g2_3:w2.cell? (aD w1.heap.size 3)=some (.int .i64 n.source):=gg2.cell 3;have g2_4:w2.cell? (aD w1.heap.size 4)=some (n.cl.val):=gg2.cell 4;have g2_5:w2.cell? (aD w1.heap.size 5)=some (.int .i64 n.key):=gg2.cell 5;have g2_6:w2.cell? (aD w1.heap.size 6)=some (n.co.val):=gg2.cell 6;have g1_0:w2.cell? (aD w.heap.size 0)=some v0:=by rw[hFC] at gg1; exact gg1.cell 0
 have g1_1:w2.cell? (aD w.heap.size 1)=some v1:=by rw[hFC] at gg1; exact gg1.cell 1
 have g1_2:w2.cell? (aD w.heap.size 2)=some v2:=by rw[hFC] at gg1; exact gg1.cell 2
 have g1_3:w2.cell? (aD w.heap.size 3)=some v3:=by rw[hFC] at gg1; exact gg1.cell 3
 have g1_4:w2.cell? (aD w.heap.size 4)=some v4:=by rw[hFC] at gg1; exact gg1.cell 4
 have g1_5:w2.cell? (aD w.heap.size 5)=some v5:=by rw[hFC] at gg1; exact gg1.cell 5
 have g1_6:w2.cell? (aD w.heap.size 6)=some v6:=by rw[hFC] at gg1; exact gg1.cell 6
 have g1_7:w2.cell? (aD w.heap.size 7)=some v7:=by rw[hFC] at gg1; exact gg1.cell 7
 have g1_8:w2.cell? (aD w.heap.size 8)=some v8:=by rw[hFC] at gg1; exact gg1.cell 8
 have g1_9:w2.cell? (aD w.heap.size 9)=some v9:=by rw[hFC] at gg1; exact gg1.cell 9
 have g1_10:w2.cell? (aD w.heap.size 10)=some v10:=by rw[hFC] at gg1; exact gg1.cell 10
 have g1_11:w2.cell? (aD w.heap.size 11)=some v11:=by rw[hFC] at gg1; exact gg1.cell 11
 have g1_12:w2.cell? (aD w.heap.size 12)=some v12:=by rw[hFC] at gg1; exact gg1.cell 12
 have hpw:=hp.1;have hlk:ps.length=2:=by rw[hl,hk]; rfl
 have HC:Hid _:=hc0;obtain⟨RES,hRES⟩:∃ R,R=fitsP ts q n (ps.getD 0 pvz).d (ps.getD 1 pvz).d:=⟨_,rfl⟩
 rw[<- hRES];unfold fitsP at hRES;rw[if_neg (by rw[hk]; decide),if_neg (by rw[hk]; decide),if_neg (by rw[hk]; decide),if_pos hk] at hRES;have hl0:0<ps.length:=by omega
 obtain⟨⟨pb,po,rfl,c0,c1,c2,c3,c4,c5⟩,hLo⟩:=(PartsAt.below hc0 hp).2 0 hl0;rw[Nat.zero_mul,Nat.add_zero] at c0 c1 c2 c3 c4 c5;have hl1:1<ps.length:=by omega
 have hl1i:(1:Int)<(ps.length:Int):=by omega
 obtain⟨⟨pb',po',e',d0,d1,d2,d3,d4,d5⟩,hRo⟩:=(PartsAt.below hc0 hp).2 1 hl1
 cases e'
 rw[Nat.one_mul] at d0 d1 d2 d3 d4 d5;generalize ps.getD 0 pvz=L at *;generalize ps.getD 1 pvz=R at *;have HJF:Hid (∀ x,Below w2.heap.size w2 x->Calls Tryz.prog 222 #[.agg (f.cells ts q),.agg n.cells,.agg L.cells,.agg R.cells] x fun e w'=>e=.returned (.bool (joinP ts q n L.sources R.sources))/\Below x.heap.size x w'):=fun x hx=>joinFits_any f ts q n L R x ok (hf.below (bQ1 hc0 hx)) (IntsAt.below (bQ1 hc0 hx) hcl) hLo.sources hRo.sources
 rw[hFC] at HJF;have HKC:Hid (∀ x,Below w2.heap.size w2 x->Calls Tryz.prog 223 #[.agg (f.cells ts q),.agg n.cells,.agg L.cells,.agg R.cells] x fun e w'=>e=.returned (.tuple #[.int .i64 (keyP ts q n L.sources R.sources).1,.int .i64 (keyP ts q n L.sources R.sources).2.1,.bool (keyP ts q n L.sources R.sources).2.2])/\Below x.heap.size x w'):=fun x hx=>keyColumns_any f ts q n L R x ok (hf.below (bQ1 hc0 hx)) (IntsAt.below (bQ1 hc0 hx) hcl) hLo.sources hRo.sources
 rw[hFC] at HKC;have hRES:RES=((keyP ts q n L.sources R.sources).2.2&&joinP ts q n L.sources R.sources):=hRES;generalize joinP ts q n L.sources R.sources=RB at *;generalize keyP ts q n L.sources R.sources=KP at *;obtain⟨ka,kb,kok⟩:=KP;simp only at HKC hRES;have HRE:Hid _:=hRES;rw[hFC,hNC];rw[hFC] at hw1;rw[hNC] at hw2;clear hRES hg1 hg2 gg1 gg2 hk1 hk2 hc0 hc1 hlk hl;clear hf hcl hco hcap hp ok hFC hNC hv0 hv1 hv2 hv3 hv4 hv5 hv6;obtain⟨nk,nl,nr,ns,⟨ca,cc,cl⟩,key,⟨da,dc,co⟩⟩:=n;simp only at hk;subst hk;obtain⟨lk,ls,lcl,⟨la,lcp,lx⟩,lz,lco⟩:=L;obtain⟨rk,rs,rcl,⟨ra,rcp,rx⟩,rz,rco⟩:=R;simp only[PartV.cells,NodeV.cells,IntsV.val] at *
 cases kok with
 | true =>
  have HV:Hid (RES=RB):=by show _=_; rw[HRE.out]; rfl
  clear HRE;go_enter Tryz.func151,Tryz.ntmps151;go_upto_region 9 with fail;clear hw1 hw2;refine wp_region_below (by kernel_rfl) (by kernel_rfl) ?_;go_big_quiet_want;refine⟨.agg #[v0,v1,v2,v3,v4,v5,v6,v7,v8,v9,v10,v11,v12],fun x hx=>?_,?_⟩
  ·have e0:=cB hx g1_0;have e1:=cB hx g1_1;have e2:=cB hx g1_2;have e3:=cB hx g1_3;have e4:=cB hx g1_4;have e5:=cB hx g1_5;have e6:=cB hx g1_6;have e7:=cB hx g1_7;have e8:=cB hx g1_8;have e9:=cB hx g1_9;have e10:=cB hx g1_10;have e11:=cB hx g1_11;have e12:=cB hx g1_12;go_simp
  simp only[pA,sB,sC];go_big_quiet_on;go_big_quiet_want;refine⟨.agg #[.int .i64 4,.int .i64 nl,.int .i64 nr,.int .i64 ns,.slice ca cl.length cc,.int .i64 key,.slice da co.length dc],fun x hx=>?_,?_⟩
  ·have e0:=cB hx g2_0;have e1:=cB hx g2_1;have e2:=cB hx g2_2;have e3:=cB hx g2_3;have e4:=cB hx g2_4;have e5:=cB hx g2_5;have e6:=cB hx g2_6;go_simp
  simp only[pA,sB,sC];go_big_quiet_on;go_big_quiet_want;refine⟨.slice (some (aD pb po)) ps.length cap,fun x hx=>?_,?_⟩
  ·go_simp
  simp only[pA,sB,sC];go_big_quiet_on;go_big_quiet_want;refine⟨.pointer (some (aD pb po)),fun x hx=>?_,?_⟩
  ·go_simp
  simp only[pA,sB,sC];go_big_quiet_on;go_big_quiet_want;refine⟨.agg #[.int .i64 lk,.int .u64 (ls:Int),.int .u64 (lcl:Int),.slice la lx.length lcp,.int .u64 (lz:Int),.int .u64 (lco:Int)],fun x hx=>?_,?_⟩
  ·have e0:=cB hx c0;have e1:=cB hx c1;have e2:=cB hx c2;have e3:=cB hx c3;have e4:=cB hx c4;have e5:=cB hx c5;go_simp
  simp only[pA,sB,sC];go_big_quiet_on;go_big_quiet_want;refine⟨.slice (some (aD pb po)) ps.length cap,fun x hx=>?_,?_⟩
  ·go_simp
  simp only[pA,sB,sC];go_big_quiet_on;go_big_quiet_want;refine⟨.pointer (some (aD pb (po+6))),fun x hx=>?_,?_⟩
  ·go_simp
  simp only[pA,sB,sC];go_big_quiet_on;go_big_quiet_want;refine⟨.agg #[.int .i64 rk,.int .u64 (rs:Int),.int .u64 (rcl:Int),.slice ra rx.length rcp,.int .u64 (rz:Int),.int .u64 (rco:Int)],fun x hx=>?_,?_⟩
  ·have e0:=cB hx d0;have e1:=cB hx d1;have e2:=cB hx d2;have e3:=cB hx d3;have e4:=cB hx d4;have e5:=cB hx d5;go_simp
  simp only[pA,sB,sC];go_big_quiet_on;go_big_quiet_want;refine⟨.tuple #[.int .i64 ka,.int .i64 kb,.bool true],fun x hx=>?_,?_⟩
  ·have hC:=Calls.within hx (HKC.out x hx);go_simp
  simp only[pA,sB,sC];go_big_quiet_on;go_big_quiet_want;refine⟨.tuple #[.int .i64 ka,.int .i64 kb,.bool true],fun x hx=>?_,?_⟩
  ·go_simp
  simp only[pA,sB,sC];go_big_quiet_on;go_big_quiet_want;refine⟨.int .i64 ka,fun x hx=>?_,?_⟩
  ·go_simp
  simp only[pA,sB,sC];go_big_quiet_on;go_big_quiet_want;refine⟨.int .i64 kb,fun x hx=>?_,?_⟩
  ·go_simp
  simp only[pA,sB,sC];go_big_quiet_on;go_big_quiet_want;refine⟨.bool true,fun x hx=>?_,?_⟩
  ·go_simp
  simp only[pA,sB,sC];go_big_quiet_on;go_big_quiet_want;refine⟨.int .i64 ka,fun x hx=>?_,?_⟩
  ·go_simp
  simp only[pA,sB,sC];go_big_quiet_on;go_big_quiet_want;refine⟨.int .i64 kb,fun x hx=>?_,?_⟩
  ·go_simp
  simp only[pA,sB,sC];go_big_quiet_on;go_big_quiet_want;refine⟨.bool true,fun x hx=>?_,?_⟩
  ·go_simp
  simp only[pA,sB,sC];go_big_quiet_on;refine wpQuiet_nil ?_;intro w5 hb5;have f1_0:=cB hb5 g1_0;have f1_1:=cB hb5 g1_1;have f1_2:=cB hb5 g1_2;have f1_3:=cB hb5 g1_3;have f1_4:=cB hb5 g1_4;have f1_5:=cB hb5 g1_5;have f1_6:=cB hb5 g1_6;have f1_7:=cB hb5 g1_7;have f1_8:=cB hb5 g1_8;have f1_9:=cB hb5 g1_9;have f1_10:=cB hb5 g1_10;have f1_11:=cB hb5 g1_11;have f1_12:=cB hb5 g1_12;have f2_0:=cB hb5 g2_0;have f2_1:=cB hb5 g2_1;have f2_2:=cB hb5 g2_2;have f2_3:=cB hb5 g2_3;have f2_4:=cB hb5 g2_4;have f2_5:=cB hb5 g2_5;have f2_6:=cB hb5 g2_6;have cc0:=cB hb5 c0;have dd0:=cB hb5 d0;have cc1:=cB hb5 c1;have dd1:=cB hb5 d1;have cc2:=cB hb5 c2;have dd2:=cB hb5 d2;have cc3:=cB hb5 c3;have dd3:=cB hb5 d3;have cc4:=cB hb5 c4;have dd4:=cB hb5 d4;have cc5:=cB hb5 c5;have dd5:=cB hb5 d5;have HB5:Hid (Below w2.heap.size w2 w5):=hb5;have HC5:Hid _:=bQ1 HC.out hb5;clear hb5 g1_0 g1_1 g1_2 g1_3 g1_4 g1_5 g1_6 g1_7 g1_8 g1_9 g1_10 g1_11 g1_12 g2_0 g2_1 g2_2 g2_3 g2_4 g2_5 g2_6 c0 c1 c2 c3 c4 c5 d0 d1 d2 d3 d4 d5;go_wp2_with fail;refine wp_region_below (by kernel_rfl) (by kernel_rfl) ?_;go_big_quiet_want;refine⟨.bool true,fun x hx=>?_,?_⟩
  ·go_simp
  simp only[pA,sB,sC];go_big_quiet_on;go_big_quiet_want;refine⟨.bool true,fun x hx=>?_,?_⟩
  ·go_simp
  simp only[pA,sB,sC];go_big_quiet_on;go_big_quiet_want;refine⟨.agg #[v0,v1,v2,v3,v4,v5,v6,v7,v8,v9,v10,v11,v12],fun x hx=>?_,?_⟩
  ·have e0:=cB hx f1_0;have e1:=cB hx f1_1;have e2:=cB hx f1_2;have e3:=cB hx f1_3;have e4:=cB hx f1_4;have e5:=cB hx f1_5;have e6:=cB hx f1_6;have e7:=cB hx f1_7;have e8:=cB hx f1_8;have e9:=cB hx f1_9;have e10:=cB hx f1_10;have e11:=cB hx f1_11;have e12:=cB hx f1_12;go_simp
  simp only[pA,sB,sC];go_big_quiet_on;go_big_quiet_want;refine⟨.agg #[.int .i64 4,.int .i64 nl,.int .i64 nr,.int .i64 ns,.slice ca cl.length cc,.int .i64 key,.slice da co.length dc],fun x hx=>?_,?_⟩
  ·have e0:=cB hx f2_0;have e1:=cB hx f2_1;have e2:=cB hx f2_2;have e3:=cB hx f2_3;have e4:=cB hx f2_4;have e5:=cB hx f2_5;have e6:=cB hx f2_6;go_simp
  simp only[pA,sB,sC];go_big_quiet_on;go_big_quiet_want;refine⟨.slice (some (aD pb po)) ps.length cap,fun x hx=>?_,?_⟩
  ·go_simp
  simp only[pA,sB,sC];go_big_quiet_on;go_big_quiet_want;refine⟨.pointer (some (aD pb po)),fun x hx=>?_,?_⟩
  ·go_simp
  simp only[pA,sB,sC];go_big_quiet_on;go_big_quiet_want;refine⟨.agg #[.int .i64 lk,.int .u64 (ls:Int),.int .u64 (lcl:Int),.slice la lx.length lcp,.int .u64 (lz:Int),.int .u64 (lco:Int)],fun x hx=>?_,?_⟩
  ·have e0:=cB hx cc0;have e1:=cB hx cc1;have e2:=cB hx cc2;have e3:=cB hx cc3;have e4:=cB hx cc4;have e5:=cB hx cc5;go_simp
  simp only[pA,sB,sC];go_big_quiet_on;go_big_quiet_want;refine⟨.slice (some (aD pb po)) ps.length cap,fun x hx=>?_,?_⟩
  ·go_simp
  simp only[pA,sB,sC];go_big_quiet_on;go_big_quiet_want;refine⟨.pointer (some (aD pb (po+6))),fun x hx=>?_,?_⟩
  ·go_simp
  simp only[pA,sB,sC];go_big_quiet_on;go_big_quiet_want;refine⟨.agg #[.int .i64 rk,.int .u64 (rs:Int),.int .u64 (rcl:Int),.slice ra rx.length rcp,.int .u64 (rz:Int),.int .u64 (rco:Int)],fun x hx=>?_,?_⟩
  ·have e0:=cB hx dd0;have e1:=cB hx dd1;have e2:=cB hx dd2;have e3:=cB hx dd3;have e4:=cB hx dd4;have e5:=cB hx dd5;go_simp
  simp only[pA,sB,sC];go_big_quiet_on;go_big_quiet_want;refine⟨.bool RB,fun x hx=>?_,?_⟩
  ·have hC:=Calls.within hx (HJF.out x (bQ1 HB5.out hx));go_simp
  simp only[pA,sB,sC];go_big_quiet_on;go_big_quiet_want;refine⟨.bool RB,fun x hx=>?_,?_⟩
  ·go_simp
  simp only[pA,sB,sC];go_big_quiet_on;go_big_quiet_want;refine⟨.bool RB,fun x hx=>?_,?_⟩
  ·go_simp
  simp only[pA,sB,sC];go_big_quiet_on;refine wpQuiet_nil ?_;intro wE hbE;have HBE:Hid _:=bQ1 HC5.out hbE;clear hbE;go_wp2;go_ret;exact⟨ret_bool HV.out.symm,HBE.out⟩
 | false =>
  have HV:Hid (RES=false):=by show _=_; rw[HRE.out]; rfl
  clear HRE HJF;go_enter Tryz.func151,Tryz.ntmps151;go_upto_region 9 with fail;clear hw1 hw2;refine wp_region_below (by kernel_rfl) (by kernel_rfl) ?_;go_big_quiet_want;refine⟨.agg #[v0,v1,v2,v3,v4,v5,v6,v7,v8,v9,v10,v11,v12],fun x hx=>?_,?_⟩
  ·have e0:=cB hx g1_0;have e1:=cB hx g1_1;have e2:=cB hx g1_2;have e3:=cB hx g1_3;have e4:=cB hx g1_4;have e5:=cB hx g1_5;have e6:=cB hx g1_6;have e7:=cB hx g1_7;have e8:=cB hx g1_8;have e9:=cB hx g1_9;have e10:=cB hx g1_10;have e11:=cB hx g1_11;have e12:=cB hx g1_12;go_simp
  simp only[pA,sB,sC];go_big_quiet_on;go_big_quiet_want;refine⟨.agg #[.int .i64 4,.int .i64 nl,.int .i64 nr,.int .i64 ns,.slice ca cl.length cc,.int .i64 key,.slice da co.length dc],fun x hx=>?_,?_⟩
  ·have e0:=cB hx g2_0;have e1:=cB hx g2_1;have e2:=cB hx g2_2;have e3:=cB hx g2_3;have e4:=cB hx g2_4;have e5:=cB hx g2_5;have e6:=cB hx g2_6;go_simp
  simp only[pA,sB,sC];go_big_quiet_on;go_big_quiet_want;refine⟨.slice (some (aD pb po)) ps.length cap,fun x hx=>?_,?_⟩
  ·go_simp
  simp only[pA,sB,sC];go_big_quiet_on;go_big_quiet_want;refine⟨.pointer (some (aD pb po)),fun x hx=>?_,?_⟩
  ·go_simp
  simp only[pA,sB,sC];go_big_quiet_on;go_big_quiet_want;refine⟨.agg #[.int .i64 lk,.int .u64 (ls:Int),.int .u64 (lcl:Int),.slice la lx.length lcp,.int .u64 (lz:Int),.int .u64 (lco:Int)],fun x hx=>?_,?_⟩
  ·have e0:=cB hx c0;have e1:=cB hx c1;have e2:=cB hx c2;have e3:=cB hx c3;have e4:=cB hx c4;have e5:=cB hx c5;go_simp
  simp only[pA,sB,sC];go_big_quiet_on;go_big_quiet_want;refine⟨.slice (some (aD pb po)) ps.length cap,fun x hx=>?_,?_⟩
  ·go_simp
  simp only[pA,sB,sC];go_big_quiet_on;go_big_quiet_want;refine⟨.pointer (some (aD pb (po+6))),fun x hx=>?_,?_⟩
  ·go_simp
  simp only[pA,sB,sC];go_big_quiet_on;go_big_quiet_want;refine⟨.agg #[.int .i64 rk,.int .u64 (rs:Int),.int .u64 (rcl:Int),.slice ra rx.length rcp,.int .u64 (rz:Int),.int .u64 (rco:Int)],fun x hx=>?_,?_⟩
  ·have e0:=cB hx d0;have e1:=cB hx d1;have e2:=cB hx d2;have e3:=cB hx d3;have e4:=cB hx d4;have e5:=cB hx d5;go_simp
  simp only[pA,sB,sC];go_big_quiet_on;go_big_quiet_want;refine⟨.tuple #[.int .i64 ka,.int .i64 kb,.bool false],fun x hx=>?_,?_⟩
  ·have hC:=Calls.within hx (HKC.out x hx);go_simp
  simp only[pA,sB,sC];go_big_quiet_on;go_big_quiet_want;refine⟨.tuple #[.int .i64 ka,.int .i64 kb,.bool false],fun x hx=>?_,?_⟩
  ·go_simp
  simp only[pA,sB,sC];go_big_quiet_on;go_big_quiet_want;refine⟨.int .i64 ka,fun x hx=>?_,?_⟩
  ·go_simp
  simp only[pA,sB,sC];go_big_quiet_on;go_big_quiet_want;refine⟨.int .i64 kb,fun x hx=>?_,?_⟩
  ·go_simp
  simp only[pA,sB,sC];go_big_quiet_on;go_big_quiet_want;refine⟨.bool false,fun x hx=>?_,?_⟩
  ·go_simp
  simp only[pA,sB,sC];go_big_quiet_on;go_big_quiet_want;refine⟨.int .i64 ka,fun x hx=>?_,?_⟩
  ·go_simp
  simp only[pA,sB,sC];go_big_quiet_on;go_big_quiet_want;refine⟨.int .i64 kb,fun x hx=>?_,?_⟩
  ·go_simp
  simp only[pA,sB,sC];go_big_quiet_on;go_big_quiet_want;refine⟨.bool false,fun x hx=>?_,?_⟩
  ·go_simp
  simp only[pA,sB,sC];go_big_quiet_on;refine wpQuiet_nil ?_;intro w5 hb5;have f1_0:=cB hb5 g1_0;have f1_1:=cB hb5 g1_1;have f1_2:=cB hb5 g1_2;have f1_3:=cB hb5 g1_3;have f1_4:=cB hb5 g1_4;have f1_5:=cB hb5 g1_5;have f1_6:=cB hb5 g1_6;have f1_7:=cB hb5 g1_7;have f1_8:=cB hb5 g1_8;have f1_9:=cB hb5 g1_9;have f1_10:=cB hb5 g1_10;have f1_11:=cB hb5 g1_11;have f1_12:=cB hb5 g1_12;have f2_0:=cB hb5 g2_0;have f2_1:=cB hb5 g2_1;have f2_2:=cB hb5 g2_2;have f2_3:=cB hb5 g2_3;have f2_4:=cB hb5 g2_4;have f2_5:=cB hb5 g2_5;have f2_6:=cB hb5 g2_6;have cc0:=cB hb5 c0;have dd0:=cB hb5 d0;have cc1:=cB hb5 c1;have dd1:=cB hb5 d1;have cc2:=cB hb5 c2;have dd2:=cB hb5 d2;have cc3:=cB hb5 c3;have dd3:=cB hb5 d3;have cc4:=cB hb5 c4;have dd4:=cB hb5 d4;have cc5:=cB hb5 c5;have dd5:=cB hb5 d5;have HB5:Hid (Below w2.heap.size w2 w5):=hb5;have HC5:Hid _:=bQ1 HC.out hb5;clear hb5 g1_0 g1_1 g1_2 g1_3 g1_4 g1_5 g1_6 g1_7 g1_8 g1_9 g1_10 g1_11 g1_12 g2_0 g2_1 g2_2 g2_3 g2_4 g2_5 g2_6 c0 c1 c2 c3 c4 c5 d0 d1 d2 d3 d4 d5;go_wp2_with fail;refine wp_region_below (by kernel_rfl) (by kernel_rfl) ?_;go_big_quiet_want;refine⟨.bool false,fun x hx=>?_,?_⟩
  ·go_simp
  simp only[pA,sB,sC];go_big_quiet_on;go_big_quiet_want;refine⟨.bool false,fun x hx=>?_,?_⟩
  ·go_simp
  simp only[pA,sB,sC];go_big_quiet_on;go_big_quiet_skip
  try simp only[pA,sB,sC]
  go_big_quiet_skip
  try simp only[pA,sB,sC]
  go_big_quiet_skip
  try simp only[pA,sB,sC]
  go_big_quiet_skip
  try simp only[pA,sB,sC]
  go_big_quiet_skip
  try simp only[pA,sB,sC]
  go_big_quiet_skip
  try simp only[pA,sB,sC]
  go_big_quiet_skip
  try simp only[pA,sB,sC]
  go_big_quiet_skip
  try simp only[pA,sB,sC]
  go_big_quiet_skip
  try simp only[pA,sB,sC]
  go_big_quiet_want;refine⟨.bool false,fun x hx=>?_,?_⟩
  ·go_simp
  simp only[pA,sB,sC];go_big_quiet_on;go_big_quiet_want;refine⟨.bool false,fun x hx=>?_,?_⟩
  ·go_simp
  simp only[pA,sB,sC];go_big_quiet_on;refine wpQuiet_nil ?_;intro wE hbE;have HBE:Hid _:=bQ1 HC5.out hbE;clear hbE;go_wp2;go_ret;exact⟨ret_bool HV.out.symm,HBE.out⟩
theorem fits_k5 (f:FactsV) (ts:List TableD) (q:QueryV) (n:NodeV) (ao:Option Addr) (cap:Nat) (ps:List PartV) (w:World) (ok:Ok ts q) (hf:f.At ts q w) (hcl:n.cl.At w) (hco:n.co.At w) (hcap:n.co.xs.length<=n.co.cap) (hp:PartsAt w ao ps) (hk:n.kind=5) (hl:ps.length=arity n.kind) :
  Calls Tryz.prog 151 #[.agg (f.cells ts q),.agg n.cells,.slice ao ps.length cap] w fun e w'=>e=.returned (.bool (fitsP ts q n (ps.getD 0 pvz).d (ps.getD 1 pvz).d))/\Below w.heap.size w w':=by
 obtain⟨v0,v1,v2,v3,v4,v5,v6,v7,v8,v9,v10,v11,v12,hFC,hv0,hv1,hv2,hv3,hv4,hv5,hv6,-⟩:=factsCells f ts q;have hNC:n.cells=#[.int .i64 n.kind,.int .i64 n.l,.int .i64 n.r,.int .i64 n.source,n.cl.val,.int .i64 n.key,n.co.val]:=rfl;obtain⟨w1,hw1⟩:∃ x,w.alloc (.cells (f.cells ts q) 105)=x:=⟨_,rfl⟩
 have hk1:Below w.heap.size w w1:=by rw[<- hw1]; exact bQ2 _ _
 have hg1:GB w1 w.heap.size 105 (f.cells ts q):=by rw[<- hw1]; exact bQ3 _ _
 obtain⟨w2,hw2⟩:∃ x,w1.alloc (.cells n.cells 58)=x:=⟨_,rfl⟩
 have hk2:Below w1.heap.size w1 w2:=by rw[<- hw2]; exact bQ2 _ _
 have hg2:GB w2 w1.heap.size 58 n.cells:=by rw[<- hw2]; exact bQ3 _ _
 have hc1:=hk2;have hc0:Below w.heap.size w w2:=bQ1 hk1 hc1;have gg1:GB w2 w.heap.size 105 (f.cells ts q):=hg1.of (hc1.block _ hg1.lt);have gg2:=hg2;have g2_0:w2.cell? (aD w1.heap.size 0)=some (.int .i64 n.kind):=gg2.cell 0;have g2_1:w2.cell? (aD w1.heap.size 1)=some (.int .i64 n.l):=gg2.cell 1;have g2_2:w2.cell? (aD w1.heap.size 2)=some (.int .i64 n.r):=gg2.cell 2;have g2_3:w2.cell? (aD w1.heap.size 3)=some (.int .i64 n.source):=gg2.cell 3;have g2_4:w2.cell? (aD w1.heap.size 4)=some (n.cl.val):=gg2.cell 4;have g2_5:w2.cell? (aD w1.heap.size 5)=some (.int .i64 n.key):=gg2.cell 5;have g2_6:w2.cell? (aD w1.heap.size 6)=some (n.co.val):=gg2.cell 6;have g1_0:w2.cell? (aD w.heap.size 0)=some v0:=by rw[hFC] at gg1; exact gg1.cell 0
 have g1_1:w2.cell? (aD w.heap.size 1)=some v1:=by rw[hFC] at gg1; exact gg1.cell 1
 have g1_2:w2.cell? (aD w.heap.size 2)=some v2:=by rw[hFC] at gg1; exact gg1.cell 2
 have g1_3:w2.cell? (aD w.heap.size 3)=some v3:=by rw[hFC] at gg1; exact gg1.cell 3
 have g1_4:w2.cell? (aD w.heap.size 4)=some v4:=by rw[hFC] at gg1; exact gg1.cell 4
 have g1_5:w2.cell? (aD w.heap.size 5)=some v5:=by rw[hFC] at gg1; exact gg1.cell 5
 have g1_6:w2.cell? (aD w.heap.size 6)=some v6:=by rw[hFC] at gg1; exact gg1.cell 6
 have g1_7:w2.cell? (aD w.heap.size 7)=some v7:=by rw[hFC] at gg1; exact gg1.cell 7
 have g1_8:w2.cell? (aD w.heap.size 8)=some v8:=by rw[hFC] at gg1; exact gg1.cell 8
 have g1_9:w2.cell? (aD w.heap.size 9)=some v9:=by rw[hFC] at gg1; exact gg1.cell 9
 have g1_10:w2.cell? (aD w.heap.size 10)=some v10:=by rw[hFC] at gg1; exact gg1.cell 10
 have g1_11:w2.cell? (aD w.heap.size 11)=some v11:=by rw[hFC] at gg1; exact gg1.cell 11
 have g1_12:w2.cell? (aD w.heap.size 12)=some v12:=by rw[hFC] at gg1; exact gg1.cell 12
 have hpw:=hp.1;have hlk:ps.length=2:=by rw[hl,hk]; rfl
 have HC:Hid _:=hc0;obtain⟨RES,hRES⟩:∃ R,R=fitsP ts q n (ps.getD 0 pvz).d (ps.getD 1 pvz).d:=⟨_,rfl⟩
 rw[<- hRES];unfold fitsP at hRES;rw[if_neg (by rw[hk]; decide),if_neg (by rw[hk]; decide),if_neg (by rw[hk]; decide),if_neg (by rw[hk]; decide),if_pos hk] at hRES;have hl0:0<ps.length:=by omega
 obtain⟨⟨pb,po,rfl,c0,c1,c2,c3,c4,c5⟩,hLo⟩:=(PartsAt.below hc0 hp).2 0 hl0;rw[Nat.zero_mul,Nat.add_zero] at c0 c1 c2 c3 c4 c5;have hl1:1<ps.length:=by omega
 have hl1i:(1:Int)<(ps.length:Int):=by omega
 obtain⟨⟨pb',po',e',d0,d1,d2,d3,d4,d5⟩,hRo⟩:=(PartsAt.below hc0 hp).2 1 hl1
 cases e'
 rw[Nat.one_mul] at d0 d1 d2 d3 d4 d5;generalize ps.getD 0 pvz=L at *;generalize ps.getD 1 pvz=R at *;have HMF:Hid (∀ x,Below w2.heap.size w2 x->Calls Tryz.prog 224 #[.agg (f.cells ts q),.agg n.cells,.agg L.cells,.agg R.cells] x fun e w'=>e=.returned (.bool (mergeP ts q n L.d R.d))/\Below x.heap.size x w'):=fun x hx=>mergeFits_any f ts q n L R x ok (hf.below (bQ1 hc0 hx)) (IntsAt.below (bQ1 hc0 hx) hcl) (hLo.below hx) (hRo.below hx)
 rw[hFC] at HMF;have hRES:RES=mergeP ts q n L.d R.d:=hRES;generalize mergeP ts q n L.d R.d=RB at *;have HRE:Hid _:=hRES;rw[hFC,hNC];rw[hFC] at hw1;rw[hNC] at hw2;clear hRES hg1 hg2 gg1 gg2 hk1 hk2 hc0 hc1 hlk hl;clear hf hcl hco hcap hp ok hFC hNC hv0 hv1 hv2 hv3 hv4 hv5 hv6;obtain⟨nk,nl,nr,ns,⟨ca,cc,cl⟩,key,⟨da,dc,co⟩⟩:=n;simp only at hk;subst hk;obtain⟨lk,ls,lcl,⟨la,lcp,lx⟩,lz,lco⟩:=L;obtain⟨rk,rs,rcl,⟨ra,rcp,rx⟩,rz,rco⟩:=R;simp only[PartV.cells,NodeV.cells,IntsV.val] at *;have HV:Hid (RES=RB):=HRE.out;clear HRE;go_enter Tryz.func151,Tryz.ntmps151;go_upto_region 12 with fail;clear hw1 hw2;refine wp_region_below (by kernel_rfl) (by kernel_rfl) ?_;go_big_quiet_want;refine⟨.agg #[v0,v1,v2,v3,v4,v5,v6,v7,v8,v9,v10,v11,v12],fun x hx=>?_,?_⟩
 ·have e0:=cB hx g1_0;have e1:=cB hx g1_1;have e2:=cB hx g1_2;have e3:=cB hx g1_3;have e4:=cB hx g1_4;have e5:=cB hx g1_5;have e6:=cB hx g1_6;have e7:=cB hx g1_7;have e8:=cB hx g1_8;have e9:=cB hx g1_9;have e10:=cB hx g1_10;have e11:=cB hx g1_11;have e12:=cB hx g1_12;go_simp
 simp only[pA,sB,sC];go_big_quiet_on;go_big_quiet_want;refine⟨.agg #[.int .i64 5,.int .i64 nl,.int .i64 nr,.int .i64 ns,.slice ca cl.length cc,.int .i64 key,.slice da co.length dc],fun x hx=>?_,?_⟩
 ·have e0:=cB hx g2_0;have e1:=cB hx g2_1;have e2:=cB hx g2_2;have e3:=cB hx g2_3;have e4:=cB hx g2_4;have e5:=cB hx g2_5;have e6:=cB hx g2_6;go_simp
 simp only[pA,sB,sC];go_big_quiet_on;go_big_quiet_want;refine⟨.slice (some (aD pb po)) ps.length cap,fun x hx=>?_,?_⟩
 ·go_simp
 simp only[pA,sB,sC];go_big_quiet_on;go_big_quiet_want;refine⟨.pointer (some (aD pb po)),fun x hx=>?_,?_⟩
 ·go_simp
 simp only[pA,sB,sC];go_big_quiet_on;go_big_quiet_want;refine⟨.agg #[.int .i64 lk,.int .u64 (ls:Int),.int .u64 (lcl:Int),.slice la lx.length lcp,.int .u64 (lz:Int),.int .u64 (lco:Int)],fun x hx=>?_,?_⟩
 ·have e0:=cB hx c0;have e1:=cB hx c1;have e2:=cB hx c2;have e3:=cB hx c3;have e4:=cB hx c4;have e5:=cB hx c5;go_simp
 simp only[pA,sB,sC];go_big_quiet_on;go_big_quiet_want;refine⟨.slice (some (aD pb po)) ps.length cap,fun x hx=>?_,?_⟩
 ·go_simp
 simp only[pA,sB,sC];go_big_quiet_on;go_big_quiet_want;refine⟨.pointer (some (aD pb (po+6))),fun x hx=>?_,?_⟩
 ·go_simp
 simp only[pA,sB,sC];go_big_quiet_on;go_big_quiet_want;refine⟨.agg #[.int .i64 rk,.int .u64 (rs:Int),.int .u64 (rcl:Int),.slice ra rx.length rcp,.int .u64 (rz:Int),.int .u64 (rco:Int)],fun x hx=>?_,?_⟩
 ·have e0:=cB hx d0;have e1:=cB hx d1;have e2:=cB hx d2;have e3:=cB hx d3;have e4:=cB hx d4;have e5:=cB hx d5;go_simp
 simp only[pA,sB,sC];go_big_quiet_on;go_big_quiet_want;refine⟨.bool RB,fun x hx=>?_,?_⟩
 ·have hC:=Calls.within hx (HMF.out x hx);go_simp
 simp only[pA,sB,sC];go_big_quiet_on;go_big_quiet_want;refine⟨.bool RB,fun x hx=>?_,?_⟩
 ·go_simp
 simp only[pA,sB,sC];go_big_quiet_on;refine wpQuiet_nil ?_;intro wE hbE;have HBE:Hid _:=bQ1 HC.out hbE;clear hbE;go_wp2;go_ret;exact⟨ret_bool HV.out.symm,HBE.out⟩
end Go.Proofs.YtlpbelhfpoilpaaGreatDoor
namespace Go.Scout
open Go.RowKit
def sortAt (ts:List TableD) (src cols:List Int) (s i:Nat):Bool:=
 decide (0<=cols.getD i 0)&&decide (cols.getD i 0<widthN ts src) && !decide (cols.getD i 0∈cols.take i)&&coversB s (2 ^ sourceN ts src (cols.getD i 0))
theorem sortP_eq (ts:List TableD) (src cols:List Int) (s:Nat):sortP ts src cols s=(decide (0<cols.length)&&decide ((cols.length:Int)<=widthN ts src)&&(List.range cols.length).all (sortAt ts src cols s)):=rfl
end Go.Scout
namespace Go.Proofs.YtlpbelhfpoilpaaGreatDoor
open Go.RowKit Go.Scout
theorem sortFits_any (f:FactsV) (ts:List TableD) (q:QueryV) (la:Option Addr) (lc:Nat) (l:List Int) (s:Nat) (w:World) (ok:Ok ts q) (hf:ColsAt w f.ca (colsN ts q)) (hl:IntsAt w la l) (hcap:l.length<=lc) (hs:s<18446744073709551616) :
  Calls Tryz.prog 225 #[.agg (f.cells ts q),.slice la l.length lc,.int .u64 (s:Int)] w fun e w'=>e=.returned (.bool (sortP ts q.src.xs l s))/\Below w.heap.size w w':=by
 obtain⟨v0,v1,v2,v3,v4,v5,v6,v7,v8,v9,v10,v11,v12,hFC,-,-,-,-,-,-,-,hv7,-⟩:=factsCells f ts q;obtain⟨w1,hw1⟩:∃ x,w.alloc (.cells (f.cells ts q) 105)=x:=⟨_,rfl⟩
 have hk1:Below w.heap.size w w1:=by rw[<- hw1]; exact bQ2 _ _
 have hg1:GB w1 w.heap.size 105 (f.cells ts q):=by rw[<- hw1]; exact bQ3 _ _
 have hc0:Below w.heap.size w w1:=hk1;have gg1:=hg1;have g1_0:w1.cell? (aD w.heap.size 0)=some v0:=by rw[hFC] at gg1; exact gg1.cell 0
 have g1_1:w1.cell? (aD w.heap.size 1)=some v1:=by rw[hFC] at gg1; exact gg1.cell 1
 have g1_2:w1.cell? (aD w.heap.size 2)=some v2:=by rw[hFC] at gg1; exact gg1.cell 2
 have g1_3:w1.cell? (aD w.heap.size 3)=some v3:=by rw[hFC] at gg1; exact gg1.cell 3
 have g1_4:w1.cell? (aD w.heap.size 4)=some v4:=by rw[hFC] at gg1; exact gg1.cell 4
 have g1_5:w1.cell? (aD w.heap.size 5)=some v5:=by rw[hFC] at gg1; exact gg1.cell 5
 have g1_6:w1.cell? (aD w.heap.size 6)=some v6:=by rw[hFC] at gg1; exact gg1.cell 6
 have g1_7:w1.cell? (aD w.heap.size 7)=some v7:=by rw[hFC] at gg1; exact gg1.cell 7
 have g1_8:w1.cell? (aD w.heap.size 8)=some v8:=by rw[hFC] at gg1; exact gg1.cell 8
 have g1_9:w1.cell? (aD w.heap.size 9)=some v9:=by rw[hFC] at gg1; exact gg1.cell 9
 have g1_10:w1.cell? (aD w.heap.size 10)=some v10:=by rw[hFC] at gg1; exact gg1.cell 10
 have g1_11:w1.cell? (aD w.heap.size 11)=some v11:=by rw[hFC] at gg1; exact gg1.cell 11
 have g1_12:w1.cell? (aD w.heap.size 12)=some v12:=by rw[hFC] at gg1; exact gg1.cell 12
 subst hv7;have hcl:=colsN_len ok;have HSP:Hid (sortP ts q.src.xs l s=(decide (0<l.length)&&decide (l.length<=(colsN ts q).length)&&(List.range l.length).all (sortAt ts q.src.xs l s))):=by
  show _=_
  have hd:decide ((l.length:Int)<=((colsN ts q).length:Int))=decide (l.length<=(colsN ts q).length):=by rw[Bool.eq_iff_iff,decide_eq_true_eq,decide_eq_true_eq]; omega
  rw[sortP_eq,<- hcl,hd]
 have HAT:Hid (∀ i,sortAt ts q.src.xs l s i=(decide (0<=l.getD i 0)&&decide (l.getD i 0<((colsN ts q).length:Int)) && !decide (l.getD i 0∈l.take i)&&coversB s (2 ^ sourceN ts q.src.xs (l.getD i 0)))):=fun i=>by unfold sortAt; rw[hcl]
 have HSO:Hid (∀ x b c,Below w1.heap.size w1 x->x.cell? (aD b 0)=some (.int .i64 c)->0<=c->c<((colsN ts q).length:Int)->(Calls Tryz.prog 218 #[.agg (f.cells ts q),.slice (some (aD b 0)) 1 1] x fun e w'=>e=.returned (.int .u64 ((2 ^ sourceN ts q.src.xs c:Nat):Int))/\Below x.heap.size x w')/\2 ^ sourceN ts q.src.xs c<18446744073709551616):=
  fun x b c hb h0 h1 h2=>⟨sourcesOf_one f ts q b c x ok (hf.below (bQ1 hc0 hb)) h0 (fun c' hc'=>by rw[List.mem_singleton] at hc'; subst hc'; exact⟨h1,by omega⟩),Nat.pow_lt_pow_right (n:=64) (by omega) (Nat.lt_of_lt_of_le (srcOf_lt ok h1 (by omega)) ok.small)⟩
 have HCV:Hid (∀ x m,m<18446744073709551616->_):=fun x m hm=>covers_any s m hs hm x
 have HLI:Hid _:=IntsAt.below hc0 hl;have hl1:=hl.1;have hcs:=hf.1;have HC:Hid _:=hc0;rw[hFC] at HSO hw1 ⊢;generalize sortP ts q.src.xs l s=SP at *;generalize sortAt ts q.src.xs l s=SA at *;obtain⟨SN,hSN⟩:∃ SN:Int->Nat,∀ c,2 ^ sourceN ts q.src.xs c=SN c:=⟨_,fun _=>rfl⟩
 simp only[hSN] at HAT HSO;have HAT':Hid _:=HAT.out;have HSO':Hid _:=HSO.out;generalize colsN ts q=CS at *;clear hSN HAT HSO hcl hFC hg1 gg1 hk1 hc0 hf hl ok hs;by_cases z0:l.length=0
 ·have HV:Hid (SP=false):=by show _=_; rw[HSP.out,decide_eq_false (by omega)]; rfl
  have zb:((l.length:Int)==0)=true:=by rw[z0]; rfl
  clear HSP HAT' HSO' HCV z0;go_enter Tryz.func225,Tryz.ntmps225;go_wp2;go_ret;exact⟨ret_bool HV.out.symm,HC.out⟩
 have zb:((l.length:Int)==0)=false:=by rw[beq_eq_false_iff_ne]; omega
 by_cases z1:CS.length<l.length
 ·have HV:Hid (SP=false):=by show _=_; rw[HSP.out,decide_eq_false (show ¬ l.length<=CS.length by omega),Bool.and_false]; rfl
  have z1':(CS.length:Int)<(l.length:Int):=by omega
  clear HSP HAT' HSO' HCV z0;go_enter Tryz.func225,Tryz.ntmps225;go_wp2;go_ret;exact⟨ret_bool HV.out.symm,HC.out⟩
 have HSQ:Hid (SP=(List.range l.length).all SA):=by show _=_; rw[HSP.out,decide_eq_true (by omega),decide_eq_true (by omega)]; rfl
 clear HSP z0;go_enter Tryz.func225,Tryz.ntmps225;go_wp2;clear hw1;go_loopw [22] (fun iv wr=>∃ k:Nat,k<=l.length/\iv=.int .i64 k/\Hid (∀ j,j<k->SA j=true)/\Below w1.heap.size w1 wr) (fun iv _=>l.length-(intOf iv).toNat)
 case atStart=>exact⟨0,Nat.zero_le _,rfl,fun j hj=>absurd hj (by omega),Below.refl _ _⟩
 case round=>
  obtain⟨k,hk,rfl,HJ,hbr⟩:=hrel;by_cases hlt:k<l.length
  ·obtain⟨lb,lo,rfl,hlc⟩:=IntsAt.get HLI.out hlt;have hck:=cB hbr (hlc k hlt);have HATk:Hid _:=HAT'.out k;have HBAD:Hid (SA k=false->SP=false):=fun e=>by
    rw[HSQ.out,List.all_eq_false];exact⟨k,List.mem_range.2 hlt,by rw[e]; simp⟩
   have HJ':Hid (SA k=true->∀ j,j<k+1->SA j=true):=fun h j hj=>by
    rcases Nat.lt_or_ge j k with h' | h'
    ·exact HJ.out j h'
    ·obtain rfl:j=k:=by omega
     exact h
   have hIT:=contains_any (some (aD lb lo)) lc (l.take k) (l.getD k 0) wr (IntsAt.below hbr (IntsAt.take HLI.out k));rw[List.length_take,Nat.min_eq_left (by omega)] at hIT;have HBR:Hid _:=bQ1 HC.out hbr;clear hlc HJ HAT';generalize l.take k=LT at *;generalize l.getD k 0=c at *;by_cases h1:c<0
   ·have HV:Hid (SP=false):=HBAD.out (by rw[HATk.out,decide_eq_false (by omega)]; rfl);clear HATk HBAD HJ' hIT;go_wp2;go_ret;exact⟨ret_bool HV.out.symm,HBR.out⟩
   have p7:=cB hbr g1_7;by_cases h2:(CS.length:Int)<=c
   ·have HV:Hid (SP=false):=HBAD.out (by rw[HATk.out,decide_eq_false (show ¬ c<(CS.length:Int) by omega),Bool.and_false]; rfl);clear HATk HBAD HJ' hIT;go_wp2;go_ret;exact⟨ret_bool HV.out.symm,HBR.out⟩
   clear p7;have q0:=cB hbr g1_0;have q1:=cB hbr g1_1;have q2:=cB hbr g1_2;have q3:=cB hbr g1_3;have q4:=cB hbr g1_4;have q5:=cB hbr g1_5;have q6:=cB hbr g1_6;have q7:=cB hbr g1_7;have q8:=cB hbr g1_8;have q9:=cB hbr g1_9;have q10:=cB hbr g1_10;have q11:=cB hbr g1_11;have q12:=cB hbr g1_12;by_cases h3:c∈LT
   ·have HV:Hid (SP=false):=HBAD.out (by rw[HATk.out,decide_eq_true h3]; simp);rw[decide_eq_true h3] at hIT;clear HATk HBAD HJ' h3;go_wp2_with fail;refine Calls.mono hIT ?_;clear hIT;rintro e w2 ⟨rfl,rfl⟩;go_wp2;go_ret;exact⟨ret_bool HV.out.symm,HBR.out⟩
   rw[decide_eq_false h3] at hIT HATk;obtain⟨wa,hwa⟩:∃ x,wr.alloc (.cells #[.int .i64 c] 3)=x:=⟨_,rfl⟩
   have hka:Below wr.heap.size wr wa:=by rw[<- hwa]; exact bQ2 _ _
   obtain⟨hSO,hsn⟩:=HSO'.out wa wr.heap.size c (bQ1 hbr hka) (by rw[<- hwa]; simp) (by omega) (by omega);have HBA:Hid _:=bQ1 hbr hka;have HKA:Hid _:=hka;generalize SN c=m at *;have HCVm:Hid (∀ x,_):=fun x=>HCV.out x m hsn
   have hd1:decide (0<=c)=true:=decide_eq_true (by omega);have hd2:decide (c<(CS.length:Int))=true:=decide_eq_true (by omega);rw[hd1,hd2] at HATk;generalize coversB s m=CB at *;clear hd1 hd2 hka hsn h3
   cases CB with
   | true =>
    have HT:Hid _:=HJ'.out (by rw[HATk.out]; rfl);clear HATk HBAD HJ';go_wp2_with fail;refine Calls.mono hIT ?_;clear hIT;rintro e w2 ⟨rfl,rfl⟩;go_wp2_with fail;refine Calls.mono hSO ?_;clear hSO hwa;rintro e w3 ⟨rfl,hb3⟩;have HB3:Hid _:=bQ1 HBA.out hb3;clear hb3 hbr;go_wp2_with fail;refine Calls.mono (HCVm.out _) ?_;rintro e w4 ⟨rfl,rfl⟩;go_wp2;go_roundw
    case rel=>exact⟨k+1,by omega,by go_num,HT.out,HB3.out⟩
    case measure=>simp[intOf]; omega
   | false =>
    have HV:Hid (SP=false):=HBAD.out (by rw[HATk.out]; rfl);clear HATk HBAD HJ';go_wp2_with fail;refine Calls.mono hIT ?_;clear hIT;rintro e w2 ⟨rfl,rfl⟩;go_wp2_with fail;refine Calls.mono hSO ?_;clear hSO hwa;rintro e w3 ⟨rfl,hb3⟩;have HB3:Hid _:=bQ1 HC.out (bQ1 HBA.out hb3);clear hb3 hbr;go_wp2_with fail;refine Calls.mono (HCVm.out _) ?_;rintro e w4 ⟨rfl,rfl⟩;go_wp2;go_ret;exact⟨ret_bool HV.out.symm,HB3.out⟩
  ·have HV:Hid (SP=true):=by
    show _=_
    rw[HSQ.out,List.all_eq_true];exact fun i hi=>HJ.out i (by have:=List.mem_range.1 hi; omega)
   have HBR:Hid _:=bQ1 HC.out hbr;clear HJ HAT' HSO' hbr;go_wp2;go_ret;exact⟨ret_bool HV.out.symm,HBR.out⟩
theorem fits_k6 (f:FactsV) (ts:List TableD) (q:QueryV) (n:NodeV) (ao:Option Addr) (cap:Nat) (ps:List PartV) (w:World) (ok:Ok ts q) (hf:f.At ts q w) (hcl:n.cl.At w) (hco:n.co.At w) (hcap:n.co.xs.length<=n.co.cap) (hp:PartsAt w ao ps) (hk:n.kind=6) (hl:ps.length=arity n.kind) :
  Calls Tryz.prog 151 #[.agg (f.cells ts q),.agg n.cells,.slice ao ps.length cap] w fun e w'=>e=.returned (.bool (fitsP ts q n (ps.getD 0 pvz).d (ps.getD 1 pvz).d))/\Below w.heap.size w w':=by
 obtain⟨v0,v1,v2,v3,v4,v5,v6,v7,v8,v9,v10,v11,v12,hFC,hv0,hv1,hv2,hv3,hv4,hv5,hv6,-⟩:=factsCells f ts q;have hNC:n.cells=#[.int .i64 n.kind,.int .i64 n.l,.int .i64 n.r,.int .i64 n.source,n.cl.val,.int .i64 n.key,n.co.val]:=rfl;obtain⟨w1,hw1⟩:∃ x,w.alloc (.cells (f.cells ts q) 105)=x:=⟨_,rfl⟩
 have hk1:Below w.heap.size w w1:=by rw[<- hw1]; exact bQ2 _ _
 have hg1:GB w1 w.heap.size 105 (f.cells ts q):=by rw[<- hw1]; exact bQ3 _ _
 obtain⟨w2,hw2⟩:∃ x,w1.alloc (.cells n.cells 58)=x:=⟨_,rfl⟩
 have hk2:Below w1.heap.size w1 w2:=by rw[<- hw2]; exact bQ2 _ _
 have hg2:GB w2 w1.heap.size 58 n.cells:=by rw[<- hw2]; exact bQ3 _ _
 have hc1:=hk2;have hc0:Below w.heap.size w w2:=bQ1 hk1 hc1;have gg1:GB w2 w.heap.size 105 (f.cells ts q):=hg1.of (hc1.block _ hg1.lt);have gg2:=hg2;have g2_0:w2.cell? (aD w1.heap.size 0)=some (.int .i64 n.kind):=gg2.cell 0;have g2_1:w2.cell? (aD w1.heap.size 1)=some (.int .i64 n.l):=gg2.cell 1;have g2_2:w2.cell? (aD w1.heap.size 2)=some (.int .i64 n.r):=gg2.cell 2;have g2_3:w2.cell? (aD w1.heap.size 3)=some (.int .i64 n.source):=gg2.cell 3;have g2_4:w2.cell? (aD w1.heap.size 4)=some (n.cl.val):=gg2.cell 4;have g2_5:w2.cell? (aD w1.heap.size 5)=some (.int .i64 n.key):=gg2.cell 5;have g2_6:w2.cell? (aD w1.heap.size 6)=some (n.co.val):=gg2.cell 6;have g1_0:w2.cell? (aD w.heap.size 0)=some v0:=by rw[hFC] at gg1; exact gg1.cell 0
 have g1_1:w2.cell? (aD w.heap.size 1)=some v1:=by rw[hFC] at gg1; exact gg1.cell 1
 have g1_2:w2.cell? (aD w.heap.size 2)=some v2:=by rw[hFC] at gg1; exact gg1.cell 2
 have g1_3:w2.cell? (aD w.heap.size 3)=some v3:=by rw[hFC] at gg1; exact gg1.cell 3
 have g1_4:w2.cell? (aD w.heap.size 4)=some v4:=by rw[hFC] at gg1; exact gg1.cell 4
 have g1_5:w2.cell? (aD w.heap.size 5)=some v5:=by rw[hFC] at gg1; exact gg1.cell 5
 have g1_6:w2.cell? (aD w.heap.size 6)=some v6:=by rw[hFC] at gg1; exact gg1.cell 6
 have g1_7:w2.cell? (aD w.heap.size 7)=some v7:=by rw[hFC] at gg1; exact gg1.cell 7
 have g1_8:w2.cell? (aD w.heap.size 8)=some v8:=by rw[hFC] at gg1; exact gg1.cell 8
 have g1_9:w2.cell? (aD w.heap.size 9)=some v9:=by rw[hFC] at gg1; exact gg1.cell 9
 have g1_10:w2.cell? (aD w.heap.size 10)=some v10:=by rw[hFC] at gg1; exact gg1.cell 10
 have g1_11:w2.cell? (aD w.heap.size 11)=some v11:=by rw[hFC] at gg1; exact gg1.cell 11
 have g1_12:w2.cell? (aD w.heap.size 12)=some v12:=by rw[hFC] at gg1; exact gg1.cell 12
 have hpw:=hp.1;have hlk:ps.length=1:=by rw[hl,hk]; rfl
 have HC:Hid _:=hc0;obtain⟨RES,hRES⟩:∃ R,R=fitsP ts q n (ps.getD 0 pvz).d (ps.getD 1 pvz).d:=⟨_,rfl⟩
 rw[<- hRES];unfold fitsP at hRES;rw[if_neg (by rw[hk]; decide),if_neg (by rw[hk]; decide),if_neg (by rw[hk]; decide),if_neg (by rw[hk]; decide),if_neg (by rw[hk]; decide),if_pos hk] at hRES;have hl0:0<ps.length:=by omega
 obtain⟨⟨pb,po,rfl,c0,c1,c2,c3,c4,c5⟩,hLo⟩:=(PartsAt.below hc0 hp).2 0 hl0;rw[Nat.zero_mul,Nat.add_zero] at c0 c1 c2 c3 c4 c5;generalize ps.getD 0 pvz=L at *;generalize ps.getD 1 pvz=R at *;have HSF:Hid (∀ x,Below w2.heap.size w2 x->Calls Tryz.prog 225 #[.agg (f.cells ts q),n.co.val,.int .u64 (L.sources:Int)] x fun e w'=>e=.returned (.bool (sortP ts q.src.xs n.co.xs L.sources))/\Below x.heap.size x w'):=fun x hx=>sortFits_any f ts q n.co.ad n.co.cap n.co.xs L.sources x ok (ColsAt.below (bQ1 hc0 hx) hf.cols) (IntsAt.below (bQ1 hc0 hx) hco) hcap (by have:=hLo.sources; unfold topN at this; omega)
 rw[hFC] at HSF;have hRES:RES=sortP ts q.src.xs n.co.xs L.sources:=hRES;generalize sortP ts q.src.xs n.co.xs L.sources=RB at *;have HRE:Hid _:=hRES;rw[hFC,hNC];rw[hFC] at hw1;rw[hNC] at hw2;clear hRES hg1 hg2 gg1 gg2 hk1 hk2 hc0 hc1 hlk hl;clear hf hcl hco hcap hp ok hFC hNC hv0 hv1 hv2 hv3 hv4 hv5 hv6;obtain⟨nk,nl,nr,ns,⟨ca,cc,cl⟩,key,⟨da,dc,co⟩⟩:=n;simp only at hk;subst hk;obtain⟨lk,ls,lcl,⟨la,lcp,lx⟩,lz,lco⟩:=L;simp only[PartV.cells,NodeV.cells,IntsV.val] at *;have HV:Hid (RES=RB):=HRE.out;clear HRE;go_enter Tryz.func151,Tryz.ntmps151;go_upto_region 14 with fail;clear hw1 hw2;refine wp_region_below (by kernel_rfl) (by kernel_rfl) ?_;go_big_quiet_want;refine⟨.agg #[v0,v1,v2,v3,v4,v5,v6,v7,v8,v9,v10,v11,v12],fun x hx=>?_,?_⟩
 ·have e0:=cB hx g1_0;have e1:=cB hx g1_1;have e2:=cB hx g1_2;have e3:=cB hx g1_3;have e4:=cB hx g1_4;have e5:=cB hx g1_5;have e6:=cB hx g1_6;have e7:=cB hx g1_7;have e8:=cB hx g1_8;have e9:=cB hx g1_9;have e10:=cB hx g1_10;have e11:=cB hx g1_11;have e12:=cB hx g1_12;go_simp
 simp only[pA,sB,sC];go_big_quiet_on;go_big_quiet_want;refine⟨.pointer (some (aD w1.heap.size 6)),fun x hx=>?_,?_⟩
 ·go_simp
 simp only[pA,sB,sC];go_big_quiet_on;go_big_quiet_want;refine⟨.slice da co.length dc,fun x hx=>?_,?_⟩
 ·have e6:=cB hx g2_6;go_simp
 simp only[pA,sB,sC];go_big_quiet_on;go_big_quiet_want;refine⟨.slice (some (aD pb po)) ps.length cap,fun x hx=>?_,?_⟩
 ·go_simp
 simp only[pA,sB,sC];go_big_quiet_on;go_big_quiet_want;refine⟨.pointer (some (aD pb po)),fun x hx=>?_,?_⟩
 ·go_simp
 simp only[pA,sB,sC];go_big_quiet_on;go_big_quiet_want;refine⟨.pointer (some (aD pb (po+1))),fun x hx=>?_,?_⟩
 ·go_simp
 simp only[pA,sB,sC];go_big_quiet_on;go_big_quiet_want;refine⟨.int .u64 (ls:Int),fun x hx=>?_,?_⟩
 ·have e1:=cB hx c1;go_simp
 simp only[pA,sB,sC];go_big_quiet_on;go_big_quiet_want;refine⟨.bool RB,fun x hx=>?_,?_⟩
 ·have hC:=Calls.within hx (HSF.out x hx);go_simp
 simp only[pA,sB,sC];go_big_quiet_on;go_big_quiet_want;refine⟨.bool RB,fun x hx=>?_,?_⟩
 ·go_simp
 simp only[pA,sB,sC];go_big_quiet_on;refine wpQuiet_nil ?_;intro wE hbE;have HBE:Hid _:=bQ1 HC.out hbE;clear hbE;go_wp2;go_ret;exact⟨ret_bool HV.out.symm,HBE.out⟩
theorem fits_k7 (f:FactsV) (ts:List TableD) (q:QueryV) (n:NodeV) (ao:Option Addr) (cap:Nat) (ps:List PartV) (w:World) (ok:Ok ts q) (hf:f.At ts q w) (hcl:n.cl.At w) (hco:n.co.At w) (hcap:n.co.xs.length<=n.co.cap) (hp:PartsAt w ao ps) (hk:n.kind=7) (hl:ps.length=arity n.kind) :
  Calls Tryz.prog 151 #[.agg (f.cells ts q),.agg n.cells,.slice ao ps.length cap] w fun e w'=>e=.returned (.bool (fitsP ts q n (ps.getD 0 pvz).d (ps.getD 1 pvz).d))/\Below w.heap.size w w':=by
 obtain⟨v0,v1,v2,v3,v4,v5,v6,v7,v8,v9,v10,v11,v12,hFC,hv0,hv1,hv2,hv3,hv4,hv5,hv6,-⟩:=factsCells f ts q;have hNC:n.cells=#[.int .i64 n.kind,.int .i64 n.l,.int .i64 n.r,.int .i64 n.source,n.cl.val,.int .i64 n.key,n.co.val]:=rfl;obtain⟨w1,hw1⟩:∃ x,w.alloc (.cells (f.cells ts q) 105)=x:=⟨_,rfl⟩
 have hk1:Below w.heap.size w w1:=by rw[<- hw1]; exact bQ2 _ _
 have hg1:GB w1 w.heap.size 105 (f.cells ts q):=by rw[<- hw1]; exact bQ3 _ _
 obtain⟨w2,hw2⟩:∃ x,w1.alloc (.cells n.cells 58)=x:=⟨_,rfl⟩
 have hk2:Below w1.heap.size w1 w2:=by rw[<- hw2]; exact bQ2 _ _
 have hg2:GB w2 w1.heap.size 58 n.cells:=by rw[<- hw2]; exact bQ3 _ _
 have hc1:=hk2;have hc0:Below w.heap.size w w2:=bQ1 hk1 hc1;have gg1:GB w2 w.heap.size 105 (f.cells ts q):=hg1.of (hc1.block _ hg1.lt);have gg2:=hg2;have g2_0:w2.cell? (aD w1.heap.size 0)=some (.int .i64 n.kind):=gg2.cell 0;have g2_1:w2.cell? (aD w1.heap.size 1)=some (.int .i64 n.l):=gg2.cell 1;have g2_2:w2.cell? (aD w1.heap.size 2)=some (.int .i64 n.r):=gg2.cell 2;have g2_3:w2.cell? (aD w1.heap.size 3)=some (.int .i64 n.source):=gg2.cell 3;have g2_4:w2.cell? (aD w1.heap.size 4)=some (n.cl.val):=gg2.cell 4;have g2_5:w2.cell? (aD w1.heap.size 5)=some (.int .i64 n.key):=gg2.cell 5;have g2_6:w2.cell? (aD w1.heap.size 6)=some (n.co.val):=gg2.cell 6;have g1_0:w2.cell? (aD w.heap.size 0)=some v0:=by rw[hFC] at gg1; exact gg1.cell 0
 have g1_1:w2.cell? (aD w.heap.size 1)=some v1:=by rw[hFC] at gg1; exact gg1.cell 1
 have g1_2:w2.cell? (aD w.heap.size 2)=some v2:=by rw[hFC] at gg1; exact gg1.cell 2
 have g1_3:w2.cell? (aD w.heap.size 3)=some v3:=by rw[hFC] at gg1; exact gg1.cell 3
 have g1_4:w2.cell? (aD w.heap.size 4)=some v4:=by rw[hFC] at gg1; exact gg1.cell 4
 have g1_5:w2.cell? (aD w.heap.size 5)=some v5:=by rw[hFC] at gg1; exact gg1.cell 5
 have g1_6:w2.cell? (aD w.heap.size 6)=some v6:=by rw[hFC] at gg1; exact gg1.cell 6
 have g1_7:w2.cell? (aD w.heap.size 7)=some v7:=by rw[hFC] at gg1; exact gg1.cell 7
 have g1_8:w2.cell? (aD w.heap.size 8)=some v8:=by rw[hFC] at gg1; exact gg1.cell 8
 have g1_9:w2.cell? (aD w.heap.size 9)=some v9:=by rw[hFC] at gg1; exact gg1.cell 9
 have g1_10:w2.cell? (aD w.heap.size 10)=some v10:=by rw[hFC] at gg1; exact gg1.cell 10
 have g1_11:w2.cell? (aD w.heap.size 11)=some v11:=by rw[hFC] at gg1; exact gg1.cell 11
 have g1_12:w2.cell? (aD w.heap.size 12)=some v12:=by rw[hFC] at gg1; exact gg1.cell 12
 have hpw:=hp.1;have hlk:ps.length=1:=by rw[hl,hk]; rfl
 have HC:Hid _:=hc0;obtain⟨RES,hRES⟩:∃ R,R=fitsP ts q n (ps.getD 0 pvz).d (ps.getD 1 pvz).d:=⟨_,rfl⟩
 rw[<- hRES];unfold fitsP at hRES;rw[if_neg (by rw[hk]; decide),if_neg (by rw[hk]; decide),if_neg (by rw[hk]; decide),if_neg (by rw[hk]; decide),if_neg (by rw[hk]; decide),if_neg (by rw[hk]; decide),if_pos hk] at hRES;have hl0:0<ps.length:=by omega
 obtain⟨⟨pb,po,rfl,c0,c1,c2,c3,c4,c5⟩,hLo⟩:=(PartsAt.below hc0 hp).2 0 hl0;rw[Nat.zero_mul,Nat.add_zero] at c0 c1 c2 c3 c4 c5;generalize ps.getD 0 pvz=L at *;generalize ps.getD 1 pvz=R at *;have HWH:Hid (∀ x,Below w2.heap.size w2 x->Calls Tryz.prog 226 #[.agg (f.cells ts q),.agg L.cells] x fun e w'=>e=.returned (.bool (wholeP q L.d))/\Below x.heap.size x w'):=fun x hx=>isWhole_any f ts q L x
 rw[hFC] at HWH;rw[hv2] at g1_2 HWH hFC;have hRES:RES=(q.group&&wholeP q L.d):=hRES;generalize wholeP q L.d=RB at *;generalize q.group=gr at *;have HRE:Hid _:=hRES;rw[hFC,hNC];rw[hFC] at hw1;rw[hNC] at hw2;clear hRES hg1 hg2 gg1 gg2 hk1 hk2 hc0 hc1 hlk hl;clear hf hcl hco hcap hp ok hFC hNC hv0 hv1 hv2 hv3 hv4 hv5 hv6;obtain⟨nk,nl,nr,ns,⟨ca,cc,cl⟩,key,⟨da,dc,co⟩⟩:=n;simp only at hk;subst hk;obtain⟨lk,ls,lcl,⟨la,lcp,lx⟩,lz,lco⟩:=L;simp only[PartV.cells,NodeV.cells,IntsV.val] at *
 cases gr with
 | true =>
  have HV:Hid (RES=RB):=by show _=_; rw[HRE.out]; rfl
  clear HRE;go_enter Tryz.func151,Tryz.ntmps151;go_upto_region 16 with fail;clear hw1 hw2;refine wp_region_below (by kernel_rfl) (by kernel_rfl) ?_;go_big_quiet_want;refine⟨.pointer (some (aD w.heap.size 0)),fun x hx=>?_,?_⟩
  ·go_simp
  simp only[pA,sB,sC];go_big_quiet_on;go_big_quiet_want;refine⟨.pointer (some (aD w.heap.size 2)),fun x hx=>?_,?_⟩
  ·go_simp
  simp only[pA,sB,sC];go_big_quiet_on;go_big_quiet_want;refine⟨.bool true,fun x hx=>?_,?_⟩
  ·have e2:=cB hx g1_2;go_simp
  simp only[pA,sB,sC];go_big_quiet_on;go_big_quiet_want;refine⟨.bool true,fun x hx=>?_,?_⟩
  ·go_simp
  simp only[pA,sB,sC];go_big_quiet_on;go_big_quiet_want;refine⟨.agg #[v0,v1,.bool true,v3,v4,v5,v6,v7,v8,v9,v10,v11,v12],fun x hx=>?_,?_⟩
  ·have e0:=cB hx g1_0;have e1:=cB hx g1_1;have e2:=cB hx g1_2;have e3:=cB hx g1_3;have e4:=cB hx g1_4;have e5:=cB hx g1_5;have e6:=cB hx g1_6;have e7:=cB hx g1_7;have e8:=cB hx g1_8;have e9:=cB hx g1_9;have e10:=cB hx g1_10;have e11:=cB hx g1_11;have e12:=cB hx g1_12;go_simp
  simp only[pA,sB,sC];go_big_quiet_on;go_big_quiet_want;refine⟨.slice (some (aD pb po)) ps.length cap,fun x hx=>?_,?_⟩
  ·go_simp
  simp only[pA,sB,sC];go_big_quiet_on;go_big_quiet_want;refine⟨.pointer (some (aD pb po)),fun x hx=>?_,?_⟩
  ·go_simp
  simp only[pA,sB,sC];go_big_quiet_on;go_big_quiet_want;refine⟨.agg #[.int .i64 lk,.int .u64 (ls:Int),.int .u64 (lcl:Int),.slice la lx.length lcp,.int .u64 (lz:Int),.int .u64 (lco:Int)],fun x hx=>?_,?_⟩
  ·have e0:=cB hx c0;have e1:=cB hx c1;have e2:=cB hx c2;have e3:=cB hx c3;have e4:=cB hx c4;have e5:=cB hx c5;go_simp
  simp only[pA,sB,sC];go_big_quiet_on;go_big_quiet_want;refine⟨.bool RB,fun x hx=>?_,?_⟩
  ·have hC:=Calls.within hx (HWH.out x hx);go_simp
  simp only[pA,sB,sC];go_big_quiet_on;go_big_quiet_want;refine⟨.bool RB,fun x hx=>?_,?_⟩
  ·go_simp
  simp only[pA,sB,sC];go_big_quiet_on;go_big_quiet_want;refine⟨.bool RB,fun x hx=>?_,?_⟩
  ·go_simp
  simp only[pA,sB,sC];go_big_quiet_on;refine wpQuiet_nil ?_;intro wE hbE;have HBE:Hid _:=bQ1 HC.out hbE;clear hbE;go_wp2;go_ret;exact⟨ret_bool HV.out.symm,HBE.out⟩
 | false =>
  have HV:Hid (RES=false):=by show _=_; rw[HRE.out]; rfl
  clear HRE;go_enter Tryz.func151,Tryz.ntmps151;go_upto_region 16 with fail;clear hw1 hw2;refine wp_region_below (by kernel_rfl) (by kernel_rfl) ?_;go_big_quiet_want;refine⟨.pointer (some (aD w.heap.size 0)),fun x hx=>?_,?_⟩
  ·go_simp
  simp only[pA,sB,sC];go_big_quiet_on;go_big_quiet_want;refine⟨.pointer (some (aD w.heap.size 2)),fun x hx=>?_,?_⟩
  ·go_simp
  simp only[pA,sB,sC];go_big_quiet_on;go_big_quiet_want;refine⟨.bool false,fun x hx=>?_,?_⟩
  ·have e2:=cB hx g1_2;go_simp
  simp only[pA,sB,sC];go_big_quiet_on;go_big_quiet_want;refine⟨.bool false,fun x hx=>?_,?_⟩
  ·go_simp
  simp only[pA,sB,sC];go_big_quiet_on;go_big_quiet_skip
  try simp only[pA,sB,sC]
  go_big_quiet_skip
  try simp only[pA,sB,sC]
  go_big_quiet_skip
  try simp only[pA,sB,sC]
  go_big_quiet_skip
  try simp only[pA,sB,sC]
  go_big_quiet_skip
  try simp only[pA,sB,sC]
  go_big_quiet_want;refine⟨.bool false,fun x hx=>?_,?_⟩
  ·go_simp
  simp only[pA,sB,sC];go_big_quiet_on;go_big_quiet_want;refine⟨.bool false,fun x hx=>?_,?_⟩
  ·go_simp
  simp only[pA,sB,sC];go_big_quiet_on;refine wpQuiet_nil ?_;intro wE hbE;have HBE:Hid _:=bQ1 HC.out hbE;clear hbE;go_wp2;go_ret;exact⟨ret_bool HV.out.symm,HBE.out⟩
theorem fits_k8 (f:FactsV) (ts:List TableD) (q:QueryV) (n:NodeV) (ao:Option Addr) (cap:Nat) (ps:List PartV) (w:World) (ok:Ok ts q) (hf:f.At ts q w) (hcl:n.cl.At w) (hco:n.co.At w) (hcap:n.co.xs.length<=n.co.cap) (hp:PartsAt w ao ps) (hk:n.kind=8) (hl:ps.length=arity n.kind) :
  Calls Tryz.prog 151 #[.agg (f.cells ts q),.agg n.cells,.slice ao ps.length cap] w fun e w'=>e=.returned (.bool (fitsP ts q n (ps.getD 0 pvz).d (ps.getD 1 pvz).d))/\Below w.heap.size w w':=by
 obtain⟨v0,v1,v2,v3,v4,v5,v6,v7,v8,v9,v10,v11,v12,hFC,hv0,hv1,hv2,hv3,hv4,hv5,hv6,-⟩:=factsCells f ts q;have hNC:n.cells=#[.int .i64 n.kind,.int .i64 n.l,.int .i64 n.r,.int .i64 n.source,n.cl.val,.int .i64 n.key,n.co.val]:=rfl;obtain⟨w1,hw1⟩:∃ x,w.alloc (.cells (f.cells ts q) 105)=x:=⟨_,rfl⟩
 have hk1:Below w.heap.size w w1:=by rw[<- hw1]; exact bQ2 _ _
 have hg1:GB w1 w.heap.size 105 (f.cells ts q):=by rw[<- hw1]; exact bQ3 _ _
 obtain⟨w2,hw2⟩:∃ x,w1.alloc (.cells n.cells 58)=x:=⟨_,rfl⟩
 have hk2:Below w1.heap.size w1 w2:=by rw[<- hw2]; exact bQ2 _ _
 have hg2:GB w2 w1.heap.size 58 n.cells:=by rw[<- hw2]; exact bQ3 _ _
 have hc1:=hk2;have hc0:Below w.heap.size w w2:=bQ1 hk1 hc1;have gg1:GB w2 w.heap.size 105 (f.cells ts q):=hg1.of (hc1.block _ hg1.lt);have gg2:=hg2;have g2_0:w2.cell? (aD w1.heap.size 0)=some (.int .i64 n.kind):=gg2.cell 0;have g2_1:w2.cell? (aD w1.heap.size 1)=some (.int .i64 n.l):=gg2.cell 1;have g2_2:w2.cell? (aD w1.heap.size 2)=some (.int .i64 n.r):=gg2.cell 2;have g2_3:w2.cell? (aD w1.heap.size 3)=some (.int .i64 n.source):=gg2.cell 3;have g2_4:w2.cell? (aD w1.heap.size 4)=some (n.cl.val):=gg2.cell 4;have g2_5:w2.cell? (aD w1.heap.size 5)=some (.int .i64 n.key):=gg2.cell 5;have g2_6:w2.cell? (aD w1.heap.size 6)=some (n.co.val):=gg2.cell 6;have g1_0:w2.cell? (aD w.heap.size 0)=some v0:=by rw[hFC] at gg1; exact gg1.cell 0
 have g1_1:w2.cell? (aD w.heap.size 1)=some v1:=by rw[hFC] at gg1; exact gg1.cell 1
 have g1_2:w2.cell? (aD w.heap.size 2)=some v2:=by rw[hFC] at gg1; exact gg1.cell 2
 have g1_3:w2.cell? (aD w.heap.size 3)=some v3:=by rw[hFC] at gg1; exact gg1.cell 3
 have g1_4:w2.cell? (aD w.heap.size 4)=some v4:=by rw[hFC] at gg1; exact gg1.cell 4
 have g1_5:w2.cell? (aD w.heap.size 5)=some v5:=by rw[hFC] at gg1; exact gg1.cell 5
 have g1_6:w2.cell? (aD w.heap.size 6)=some v6:=by rw[hFC] at gg1; exact gg1.cell 6
 have g1_7:w2.cell? (aD w.heap.size 7)=some v7:=by rw[hFC] at gg1; exact gg1.cell 7
 have g1_8:w2.cell? (aD w.heap.size 8)=some v8:=by rw[hFC] at gg1; exact gg1.cell 8
 have g1_9:w2.cell? (aD w.heap.size 9)=some v9:=by rw[hFC] at gg1; exact gg1.cell 9
 have g1_10:w2.cell? (aD w.heap.size 10)=some v10:=by rw[hFC] at gg1; exact gg1.cell 10
 have g1_11:w2.cell? (aD w.heap.size 11)=some v11:=by rw[hFC] at gg1; exact gg1.cell 11
 have g1_12:w2.cell? (aD w.heap.size 12)=some v12:=by rw[hFC] at gg1; exact gg1.cell 12
 have hpw:=hp.1;have hlk:ps.length=1:=by rw[hl,hk]; rfl
 have HC:Hid _:=hc0;obtain⟨RES,hRES⟩:∃ R,R=fitsP ts q n (ps.getD 0 pvz).d (ps.getD 1 pvz).d:=⟨_,rfl⟩
 rw[<- hRES];unfold fitsP at hRES;rw[if_neg (by rw[hk]; decide),if_neg (by rw[hk]; decide),if_neg (by rw[hk]; decide),if_neg (by rw[hk]; decide),if_neg (by rw[hk]; decide),if_neg (by rw[hk]; decide),if_neg (by rw[hk]; decide),if_pos hk] at hRES;have hl0:0<ps.length:=by omega
 obtain⟨⟨pb,po,rfl,c0,c1,c2,c3,c4,c5⟩,hLo⟩:=(PartsAt.below hc0 hp).2 0 hl0;rw[Nat.zero_mul,Nat.add_zero] at c0 c1 c2 c3 c4 c5;generalize ps.getD 0 pvz=L at *;generalize ps.getD 1 pvz=R at *;have HWH:Hid (∀ x,Below w2.heap.size w2 x->Calls Tryz.prog 226 #[.agg (f.cells ts q),.agg L.cells] x fun e w'=>e=.returned (.bool (wholeP q L.d))/\Below x.heap.size x w'):=fun x hx=>isWhole_any f ts q L x
 rw[hFC] at HWH;rw[hv2] at g1_2 HWH hFC;have HBG:Hid (∀ x,Below w2.heap.size w2 x->Calls Tryz.prog 227 #[L.order.val,q.keys.val] x fun e w'=>e=.returned (.bool (startsB L.order.xs q.keys.xs))/\Below x.heap.size x w'):=fun x hx=>begins_any L.order.ad q.keys.ad L.order.cap q.keys.cap L.order.xs q.keys.xs x (IntsAt.below hx hLo.order) (IntsAt.below (bQ1 hc0 hx) hf.query.keys) hLo.cap
 rw[hv3] at g1_3 HWH hFC;have hRES:RES=(q.group&&wholeP q L.d&&startsB L.order.xs q.keys.xs):=hRES;generalize wholeP q L.d=RB at *;generalize startsB L.order.xs q.keys.xs=SB at *;generalize q.group=gr at *;obtain⟨⟨qa,qcp,qk⟩,hqk⟩:∃ x,x=q.keys:=⟨_,rfl⟩
 rw[<- hqk] at g1_3 HWH HBG hFC;clear hqk;have HRE:Hid _:=hRES;rw[hFC,hNC];rw[hFC] at hw1;rw[hNC] at hw2;clear hRES hg1 hg2 gg1 gg2 hk1 hk2 hc0 hc1 hlk hl;clear hf hcl hco hcap hp ok hFC hNC hv0 hv1 hv2 hv3 hv4 hv5 hv6;obtain⟨nk,nl,nr,ns,⟨ca,cc,cl⟩,key,⟨da,dc,co⟩⟩:=n;simp only at hk;subst hk;obtain⟨lk,ls,lcl,⟨la,lcp,lx⟩,lz,lco⟩:=L;simp only[PartV.cells,NodeV.cells,IntsV.val] at *
 cases gr with
 | false =>
  have HV:Hid (RES=false):=by show _=_; rw[HRE.out]; rfl
  clear HRE;go_enter Tryz.func151,Tryz.ntmps151;go_upto_region 18 with fail;clear hw1 hw2;refine wp_region_below (by kernel_rfl) (by kernel_rfl) ?_;go_big_quiet_want;refine⟨.pointer (some (aD w.heap.size 0)),fun x hx=>?_,?_⟩
  ·go_simp
  simp only[pA,sB,sC];go_big_quiet_on;go_big_quiet_want;refine⟨.pointer (some (aD w.heap.size 2)),fun x hx=>?_,?_⟩
  ·go_simp
  simp only[pA,sB,sC];go_big_quiet_on;go_big_quiet_want;refine⟨.bool false,fun x hx=>?_,?_⟩
  ·have e2:=cB hx g1_2;go_simp
  simp only[pA,sB,sC];go_big_quiet_on;go_big_quiet_want;refine⟨.bool false,fun x hx=>?_,?_⟩
  ·go_simp
  simp only[pA,sB,sC];go_big_quiet_on;go_big_quiet_skip
  try simp only[pA,sB,sC]
  go_big_quiet_skip
  try simp only[pA,sB,sC]
  go_big_quiet_skip
  try simp only[pA,sB,sC]
  go_big_quiet_skip
  try simp only[pA,sB,sC]
  go_big_quiet_skip
  try simp only[pA,sB,sC]
  go_big_quiet_want;refine⟨.bool false,fun x hx=>?_,?_⟩
  ·go_simp
  simp only[pA,sB,sC];go_big_quiet_on;go_big_quiet_want;refine⟨.bool false,fun x hx=>?_,?_⟩
  ·go_simp
  simp only[pA,sB,sC];go_big_quiet_on;go_big_quiet_skip
  try simp only[pA,sB,sC]
  go_big_quiet_skip
  try simp only[pA,sB,sC]
  go_big_quiet_skip
  try simp only[pA,sB,sC]
  go_big_quiet_skip
  try simp only[pA,sB,sC]
  go_big_quiet_skip
  try simp only[pA,sB,sC]
  go_big_quiet_skip
  try simp only[pA,sB,sC]
  go_big_quiet_skip
  try simp only[pA,sB,sC]
  go_big_quiet_skip
  try simp only[pA,sB,sC]
  go_big_quiet_want;refine⟨.bool false,fun x hx=>?_,?_⟩
  ·go_simp
  simp only[pA,sB,sC];go_big_quiet_on;go_big_quiet_want;refine⟨.bool false,fun x hx=>?_,?_⟩
  ·go_simp
  simp only[pA,sB,sC];go_big_quiet_on;refine wpQuiet_nil ?_;intro wE hbE;have HBE:Hid _:=bQ1 HC.out hbE;clear hbE;go_wp2;go_ret;exact⟨ret_bool HV.out.symm,HBE.out⟩
 | true =>
  cases RB with
  | false =>
   have HV:Hid (RES=false):=by show _=_; rw[HRE.out]; rfl
   clear HRE;go_enter Tryz.func151,Tryz.ntmps151;go_upto_region 18 with fail;clear hw1 hw2;refine wp_region_below (by kernel_rfl) (by kernel_rfl) ?_;go_big_quiet_want;refine⟨.pointer (some (aD w.heap.size 0)),fun x hx=>?_,?_⟩
   ·go_simp
   simp only[pA,sB,sC];go_big_quiet_on;go_big_quiet_want;refine⟨.pointer (some (aD w.heap.size 2)),fun x hx=>?_,?_⟩
   ·go_simp
   simp only[pA,sB,sC];go_big_quiet_on;go_big_quiet_want;refine⟨.bool true,fun x hx=>?_,?_⟩
   ·have e2:=cB hx g1_2;go_simp
   simp only[pA,sB,sC];go_big_quiet_on;go_big_quiet_want;refine⟨.bool true,fun x hx=>?_,?_⟩
   ·go_simp
   simp only[pA,sB,sC];go_big_quiet_on;go_big_quiet_want;refine⟨.agg #[v0,v1,.bool true,.slice qa qk.length qcp,v4,v5,v6,v7,v8,v9,v10,v11,v12],fun x hx=>?_,?_⟩
   ·have e0:=cB hx g1_0;have e1:=cB hx g1_1;have e2:=cB hx g1_2;have e3:=cB hx g1_3;have e4:=cB hx g1_4;have e5:=cB hx g1_5;have e6:=cB hx g1_6;have e7:=cB hx g1_7;have e8:=cB hx g1_8;have e9:=cB hx g1_9;have e10:=cB hx g1_10;have e11:=cB hx g1_11;have e12:=cB hx g1_12;go_simp
   simp only[pA,sB,sC];go_big_quiet_on;go_big_quiet_want;refine⟨.slice (some (aD pb po)) ps.length cap,fun x hx=>?_,?_⟩
   ·go_simp
   simp only[pA,sB,sC];go_big_quiet_on;go_big_quiet_want;refine⟨.pointer (some (aD pb po)),fun x hx=>?_,?_⟩
   ·go_simp
   simp only[pA,sB,sC];go_big_quiet_on;go_big_quiet_want;refine⟨.agg #[.int .i64 lk,.int .u64 (ls:Int),.int .u64 (lcl:Int),.slice la lx.length lcp,.int .u64 (lz:Int),.int .u64 (lco:Int)],fun x hx=>?_,?_⟩
   ·have e0:=cB hx c0;have e1:=cB hx c1;have e2:=cB hx c2;have e3:=cB hx c3;have e4:=cB hx c4;have e5:=cB hx c5;go_simp
   simp only[pA,sB,sC];go_big_quiet_on;go_big_quiet_want;refine⟨.bool false,fun x hx=>?_,?_⟩
   ·have hC:=Calls.within hx (HWH.out x hx);go_simp
   simp only[pA,sB,sC];go_big_quiet_on;go_big_quiet_want;refine⟨.bool false,fun x hx=>?_,?_⟩
   ·go_simp
   simp only[pA,sB,sC];go_big_quiet_on;go_big_quiet_want;refine⟨.bool false,fun x hx=>?_,?_⟩
   ·go_simp
   simp only[pA,sB,sC];go_big_quiet_on;go_big_quiet_skip
   try simp only[pA,sB,sC]
   go_big_quiet_skip
   try simp only[pA,sB,sC]
   go_big_quiet_skip
   try simp only[pA,sB,sC]
   go_big_quiet_skip
   try simp only[pA,sB,sC]
   go_big_quiet_skip
   try simp only[pA,sB,sC]
   go_big_quiet_skip
   try simp only[pA,sB,sC]
   go_big_quiet_skip
   try simp only[pA,sB,sC]
   go_big_quiet_skip
   try simp only[pA,sB,sC]
   go_big_quiet_want;refine⟨.bool false,fun x hx=>?_,?_⟩
   ·go_simp
   simp only[pA,sB,sC];go_big_quiet_on;go_big_quiet_want;refine⟨.bool false,fun x hx=>?_,?_⟩
   ·go_simp
   simp only[pA,sB,sC];go_big_quiet_on;refine wpQuiet_nil ?_;intro wE hbE;have HBE:Hid _:=bQ1 HC.out hbE;clear hbE;go_wp2;go_ret;exact⟨ret_bool HV.out.symm,HBE.out⟩
  | true =>
   have HV:Hid (RES=SB):=by show _=_; rw[HRE.out]; rfl
   clear HRE;go_enter Tryz.func151,Tryz.ntmps151;go_upto_region 18 with fail;clear hw1 hw2;refine wp_region_below (by kernel_rfl) (by kernel_rfl) ?_;go_big_quiet_want;refine⟨.pointer (some (aD w.heap.size 0)),fun x hx=>?_,?_⟩
   ·go_simp
   simp only[pA,sB,sC];go_big_quiet_on;go_big_quiet_want;refine⟨.pointer (some (aD w.heap.size 2)),fun x hx=>?_,?_⟩
   ·go_simp
   simp only[pA,sB,sC];go_big_quiet_on;go_big_quiet_want;refine⟨.bool true,fun x hx=>?_,?_⟩
   ·have e2:=cB hx g1_2;go_simp
   simp only[pA,sB,sC];go_big_quiet_on;go_big_quiet_want;refine⟨.bool true,fun x hx=>?_,?_⟩
   ·go_simp
   simp only[pA,sB,sC];go_big_quiet_on;go_big_quiet_want;refine⟨.agg #[v0,v1,.bool true,.slice qa qk.length qcp,v4,v5,v6,v7,v8,v9,v10,v11,v12],fun x hx=>?_,?_⟩
   ·have e0:=cB hx g1_0;have e1:=cB hx g1_1;have e2:=cB hx g1_2;have e3:=cB hx g1_3;have e4:=cB hx g1_4;have e5:=cB hx g1_5;have e6:=cB hx g1_6;have e7:=cB hx g1_7;have e8:=cB hx g1_8;have e9:=cB hx g1_9;have e10:=cB hx g1_10;have e11:=cB hx g1_11;have e12:=cB hx g1_12;go_simp
   simp only[pA,sB,sC];go_big_quiet_on;go_big_quiet_want;refine⟨.slice (some (aD pb po)) ps.length cap,fun x hx=>?_,?_⟩
   ·go_simp
   simp only[pA,sB,sC];go_big_quiet_on;go_big_quiet_want;refine⟨.pointer (some (aD pb po)),fun x hx=>?_,?_⟩
   ·go_simp
   simp only[pA,sB,sC];go_big_quiet_on;go_big_quiet_want;refine⟨.agg #[.int .i64 lk,.int .u64 (ls:Int),.int .u64 (lcl:Int),.slice la lx.length lcp,.int .u64 (lz:Int),.int .u64 (lco:Int)],fun x hx=>?_,?_⟩
   ·have e0:=cB hx c0;have e1:=cB hx c1;have e2:=cB hx c2;have e3:=cB hx c3;have e4:=cB hx c4;have e5:=cB hx c5;go_simp
   simp only[pA,sB,sC];go_big_quiet_on;go_big_quiet_want;refine⟨.bool true,fun x hx=>?_,?_⟩
   ·have hC:=Calls.within hx (HWH.out x hx);go_simp
   simp only[pA,sB,sC];go_big_quiet_on;go_big_quiet_want;refine⟨.bool true,fun x hx=>?_,?_⟩
   ·go_simp
   simp only[pA,sB,sC];go_big_quiet_on;go_big_quiet_want;refine⟨.bool true,fun x hx=>?_,?_⟩
   ·go_simp
   simp only[pA,sB,sC];go_big_quiet_on;go_big_quiet_want;refine⟨.slice (some (aD pb po)) ps.length cap,fun x hx=>?_,?_⟩
   ·go_simp
   simp only[pA,sB,sC];go_big_quiet_on;go_big_quiet_want;refine⟨.pointer (some (aD pb po)),fun x hx=>?_,?_⟩
   ·go_simp
   simp only[pA,sB,sC];go_big_quiet_on;go_big_quiet_want;refine⟨.pointer (some (aD pb (po+3))),fun x hx=>?_,?_⟩
   ·go_simp
   simp only[pA,sB,sC];go_big_quiet_on;go_big_quiet_want;refine⟨.slice la lx.length lcp,fun x hx=>?_,?_⟩
   ·have e3:=cB hx c3;go_simp
   simp only[pA,sB,sC];go_big_quiet_on;go_big_quiet_want;refine⟨.pointer (some (aD w.heap.size 0)),fun x hx=>?_,?_⟩
   ·go_simp
   simp only[pA,sB,sC];go_big_quiet_on;go_big_quiet_want;refine⟨.pointer (some (aD w.heap.size 3)),fun x hx=>?_,?_⟩
   ·go_simp
   simp only[pA,sB,sC];go_big_quiet_on;go_big_quiet_want;refine⟨.slice qa qk.length qcp,fun x hx=>?_,?_⟩
   ·have e3:=cB hx g1_3;go_simp
   simp only[pA,sB,sC];go_big_quiet_on;go_big_quiet_want;refine⟨.bool SB,fun x hx=>?_,?_⟩
   ·have hC:=Calls.within hx (HBG.out x hx);go_simp
   simp only[pA,sB,sC];go_big_quiet_on;go_big_quiet_want;refine⟨.bool SB,fun x hx=>?_,?_⟩
   ·go_simp
   simp only[pA,sB,sC];go_big_quiet_on;go_big_quiet_want;refine⟨.bool SB,fun x hx=>?_,?_⟩
   ·go_simp
   simp only[pA,sB,sC];go_big_quiet_on;refine wpQuiet_nil ?_;intro wE hbE;have HBE:Hid _:=bQ1 HC.out hbE;clear hbE;go_wp2;go_ret;exact⟨ret_bool HV.out.symm,HBE.out⟩
end Go.Proofs.YtlpbelhfpoilpaaGreatDoor
