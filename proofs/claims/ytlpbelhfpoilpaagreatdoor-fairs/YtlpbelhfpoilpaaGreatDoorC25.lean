import Derived.Deep.CutRange
import Derived.Test.YtlpbelhfpoilpaaGreatDoorC06
import Derived.Test.YtlpbelhfpoilpaaGreatDoorC13
import Derived.Test.YtlpbelhfpoilpaaGreatDoorC21
import Derived.Test.YtlpbelhfpoilpaaGreatDoorC24
set_option linter.all false
set_option maxRecDepth 100000
set_option maxHeartbeats 16000000
namespace Go.Proofs.YtlpbelhfpoilpaaGreatDoor
open Go.RowKit Go.Scout
theorem fits_k9 (f:FactsV) (ts:List TableD) (q:QueryV) (n:NodeV) (ao:Option Addr) (cap:Nat) (ps:List PartV) (w:World) (ok:Ok ts q) (hf:f.At ts q w) (hcl:n.cl.At w) (hco:n.co.At w) (hcap:n.co.xs.length<=n.co.cap) (hp:PartsAt w ao ps) (hk:n.kind=9) (hl:ps.length=arity n.kind) :
  Calls Tryz.prog 151 #[.agg (f.cells ts q),.agg n.cells,.slice ao ps.length cap] w fun e w'=>e=.returned (.bool (fitsP ts q n (ps.getD 0 pvz).d (ps.getD 1 pvz).d))/\Below w.heap.size w w':=by
 obtain⟨v0,v1,v2,v3,v4,v5,v6,v7,v8,v9,v10,v11,v12,hFC,hv0,hv1,hv2,hv3,hv4,hv5,hv6,-⟩:=factsCells f ts q;have hNC:n.cells=#[.int .i64 n.kind,.int .i64 n.l,.int .i64 n.r,.int .i64 n.source,n.cl.val,.int .i64 n.key,n.co.val]:=rfl;obtain⟨w1,hw1⟩:∃ x,w.alloc (.cells (f.cells ts q) 105)=x:=⟨_,rfl⟩
 have hk1:Below w.heap.size w w1:=by rw[<- hw1]; exact bQ2 _ _
 have hg1:GB w1 w.heap.size 105 (f.cells ts q):=by rw[<- hw1]; exact bQ3 _ _
 obtain⟨w2,hw2⟩:∃ x,w1.alloc (.cells n.cells 58)=x:=⟨_,rfl⟩
 have hk2:Below w1.heap.size w1 w2:=by rw[<- hw2]; exact bQ2 _ _
 have hg2:GB w2 w1.heap.size 58 n.cells:=by rw[<- hw2]; exact bQ3 _ _
 have hc1:=hk2;have hc0:Below w.heap.size w w2:=bQ1 hk1 hc1;have gg1:GB w2 w.heap.size 105 (f.cells ts q):=hg1.of (hc1.block _ hg1.lt);have gg2:=hg2;have g2_0:w2.cell? (aD w1.heap.size 0)=some (.int .i64 n.kind):=gg2.cell 0;have g2_1:w2.cell? (aD w1.heap.size 1)=some (.int .i64 n.l):=gg2.cell 1;have g2_2:w2.cell? (aD w1.heap.size 2)=some (.int .i64 n.r):=gg2.cell 2;have g2_3:w2.cell? (aD w1.heap.size 3)=some (.int .i64 n.source):=gg2.cell 3;have g2_4:w2.cell? (aD w1.heap.size 4)=some (n.cl.val):=gg2.cell 4;have g2_5:w2.cell? (aD w1.heap.size 5)=some (.int .i64 n.key):=gg2.cell 5;have g2_6:w2.cell? (aD w1.heap.size 6)=some (n.co.val):=gg2.cell 6;have g1_0:w2.cell? (aD w.heap.size 0)=some v0:=by rw[hFC] at gg1; exact gg1.cell 0
 have g1_1:w2.cell? (aD w.heap.size 1)=some v1:=by rw[hFC] at gg1; exact gg1.cell 1
 have g1_2:w2.cell? (aD w.heap.size 2)=some v2:=by rw[hFC] at gg1; exact gg1.cell 2
 have g1_3:w2.cell? (aD w.heap.size 3)=some v3:=by rw[hFC] at gg1; exact gg1.cell 3
 have g1_4:w2.cell? (aD w.heap.size 4)=some v4:=by rw[hFC] at gg1; exact gg1.cell 4
 have g1_5:w2.cell? (aD w.heap.size 5)=some v5:=by rw[hFC] at gg1; exact gg1.cell 5
 have g1_6:w2.cell? (aD w.heap.size 6)=some v6:=by rw[hFC] at gg1; exact gg1.cell 6
 have g1_7:w2.cell? (aD w.heap.size 7)=some v7:=by rw[hFC] at gg1; exact gg1.cell 7
 have g1_8:w2.cell? (aD w.heap.size 8)=some v8:=by rw[hFC] at gg1; exact gg1.cell 8
 have g1_9:w2.cell? (aD w.heap.size 9)=some v9:=by rw[hFC] at gg1; exact gg1.cell 9
 have g1_10:w2.cell? (aD w.heap.size 10)=some v10:=by rw[hFC] at gg1; exact gg1.cell 10
 have g1_11:w2.cell? (aD w.heap.size 11)=some v11:=by rw[hFC] at gg1; exact gg1.cell 11
 have g1_12:w2.cell? (aD w.heap.size 12)=some v12:=by rw[hFC] at gg1; exact gg1.cell 12
 have hpw:=hp.1;have hlk:ps.length=1:=by rw[hl,hk]; rfl
 have HC:Hid _:=hc0;obtain⟨RES,hRES⟩:∃ R,R=fitsP ts q n (ps.getD 0 pvz).d (ps.getD 1 pvz).d:=⟨_,rfl⟩
 rw[<- hRES];unfold fitsP at hRES;rw[if_neg (by rw[hk]; decide),if_neg (by rw[hk]; decide),if_neg (by rw[hk]; decide),if_neg (by rw[hk]; decide),if_neg (by rw[hk]; decide),if_neg (by rw[hk]; decide),if_neg (by rw[hk]; decide),if_neg (by rw[hk]; decide),if_pos hk] at hRES;have hl0:0<ps.length:=by omega
 obtain⟨⟨pb,po,rfl,c0,c1,c2,c3,c4,c5⟩,hLo⟩:=(PartsAt.below hc0 hp).2 0 hl0;rw[Nat.zero_mul,Nat.add_zero] at c0 c1 c2 c3 c4 c5;generalize ps.getD 0 pvz=L at *;generalize ps.getD 1 pvz=R at *;have HWH:Hid (∀ x,Below w2.heap.size w2 x->Calls Tryz.prog 226 #[.agg (f.cells ts q),.agg L.cells] x fun e w'=>e=.returned (.bool (wholeP q L.d))/\Below x.heap.size x w'):=fun x hx=>isWhole_any f ts q L x
 rw[hFC] at HWH;rw[hv2] at g1_2 HWH hFC;have hRES:RES=(!q.group&&wholeP q L.d):=hRES;generalize wholeP q L.d=RB at *;generalize q.group=gr at *;have HRE:Hid _:=hRES;rw[hFC,hNC];rw[hFC] at hw1;rw[hNC] at hw2;clear hRES hg1 hg2 gg1 gg2 hk1 hk2 hc0 hc1 hlk hl;clear hf hcl hco hcap hp ok hFC hNC hv0 hv1 hv2 hv3 hv4 hv5 hv6;obtain⟨nk,nl,nr,ns,⟨ca,cc,cl⟩,key,⟨da,dc,co⟩⟩:=n;simp only at hk;subst hk;obtain⟨lk,ls,lcl,⟨la,lcp,lx⟩,lz,lco⟩:=L;simp only[PartV.cells,NodeV.cells,IntsV.val] at *
 cases gr with
 | true =>
  have HV:Hid (RES=false):=by show _=_; rw[HRE.out]; rfl
  clear HRE;go_enter Tryz.func151,Tryz.ntmps151;go_upto_region 20 with fail;clear hw1 hw2;refine wp_region_below (by kernel_rfl) (by kernel_rfl) ?_;go_big_quiet_want;refine⟨.pointer (some (aD w.heap.size 0)),fun x hx=>?_,?_⟩
  ·go_simp
  simp only[pA,sB,sC];go_big_quiet_on;go_big_quiet_want;refine⟨.pointer (some (aD w.heap.size 2)),fun x hx=>?_,?_⟩
  ·go_simp
  simp only[pA,sB,sC];go_big_quiet_on;go_big_quiet_want;refine⟨.bool true,fun x hx=>?_,?_⟩
  ·have e2:=cB hx g1_2;go_simp
  simp only[pA,sB,sC];go_big_quiet_on;go_big_quiet_want;refine⟨.bool false,fun x hx=>?_,?_⟩
  ·go_simp
  simp only[pA,sB,sC];go_big_quiet_on;go_big_quiet_want;refine⟨.bool false,fun x hx=>?_,?_⟩
  ·go_simp
  simp only[pA,sB,sC];go_big_quiet_on;go_big_quiet_skip
  try simp only[pA,sB,sC]
  go_big_quiet_skip
  try simp only[pA,sB,sC]
  go_big_quiet_skip
  try simp only[pA,sB,sC]
  go_big_quiet_skip
  try simp only[pA,sB,sC]
  go_big_quiet_skip
  try simp only[pA,sB,sC]
  go_big_quiet_want;refine⟨.bool false,fun x hx=>?_,?_⟩
  ·go_simp
  simp only[pA,sB,sC];go_big_quiet_on;go_big_quiet_want;refine⟨.bool false,fun x hx=>?_,?_⟩
  ·go_simp
  simp only[pA,sB,sC];go_big_quiet_on;refine wpQuiet_nil ?_;intro wE hbE;have HBE:Hid _:=bQ1 HC.out hbE;clear hbE;go_wp2;go_ret;exact⟨ret_bool HV.out.symm,HBE.out⟩
 | false =>
  have HV:Hid (RES=RB):=by show _=_; rw[HRE.out]; rfl
  clear HRE;go_enter Tryz.func151,Tryz.ntmps151;go_upto_region 20 with fail;clear hw1 hw2;refine wp_region_below (by kernel_rfl) (by kernel_rfl) ?_;go_big_quiet_want;refine⟨.pointer (some (aD w.heap.size 0)),fun x hx=>?_,?_⟩
  ·go_simp
  simp only[pA,sB,sC];go_big_quiet_on;go_big_quiet_want;refine⟨.pointer (some (aD w.heap.size 2)),fun x hx=>?_,?_⟩
  ·go_simp
  simp only[pA,sB,sC];go_big_quiet_on;go_big_quiet_want;refine⟨.bool false,fun x hx=>?_,?_⟩
  ·have e2:=cB hx g1_2;go_simp
  simp only[pA,sB,sC];go_big_quiet_on;go_big_quiet_want;refine⟨.bool true,fun x hx=>?_,?_⟩
  ·go_simp
  simp only[pA,sB,sC];go_big_quiet_on;go_big_quiet_want;refine⟨.bool true,fun x hx=>?_,?_⟩
  ·go_simp
  simp only[pA,sB,sC];go_big_quiet_on;go_big_quiet_want;refine⟨.agg #[v0,v1,.bool false,v3,v4,v5,v6,v7,v8,v9,v10,v11,v12],fun x hx=>?_,?_⟩
  ·have e0:=cB hx g1_0;have e1:=cB hx g1_1;have e2:=cB hx g1_2;have e3:=cB hx g1_3;have e4:=cB hx g1_4;have e5:=cB hx g1_5;have e6:=cB hx g1_6;have e7:=cB hx g1_7;have e8:=cB hx g1_8;have e9:=cB hx g1_9;have e10:=cB hx g1_10;have e11:=cB hx g1_11;have e12:=cB hx g1_12;go_simp
  simp only[pA,sB,sC];go_big_quiet_on;go_big_quiet_want;refine⟨.slice (some (aD pb po)) ps.length cap,fun x hx=>?_,?_⟩
  ·go_simp
  simp only[pA,sB,sC];go_big_quiet_on;go_big_quiet_want;refine⟨.pointer (some (aD pb po)),fun x hx=>?_,?_⟩
  ·go_simp
  simp only[pA,sB,sC];go_big_quiet_on;go_big_quiet_want;refine⟨.agg #[.int .i64 lk,.int .u64 (ls:Int),.int .u64 (lcl:Int),.slice la lx.length lcp,.int .u64 (lz:Int),.int .u64 (lco:Int)],fun x hx=>?_,?_⟩
  ·have e0:=cB hx c0;have e1:=cB hx c1;have e2:=cB hx c2;have e3:=cB hx c3;have e4:=cB hx c4;have e5:=cB hx c5;go_simp
  simp only[pA,sB,sC];go_big_quiet_on;go_big_quiet_want;refine⟨.bool RB,fun x hx=>?_,?_⟩
  ·have hC:=Calls.within hx (HWH.out x hx);go_simp
  simp only[pA,sB,sC];go_big_quiet_on;go_big_quiet_want;refine⟨.bool RB,fun x hx=>?_,?_⟩
  ·go_simp
  simp only[pA,sB,sC];go_big_quiet_on;go_big_quiet_want;refine⟨.bool RB,fun x hx=>?_,?_⟩
  ·go_simp
  simp only[pA,sB,sC];go_big_quiet_on;refine wpQuiet_nil ?_;intro wE hbE;have HBE:Hid _:=bQ1 HC.out hbE;clear hbE;go_wp2;go_ret;exact⟨ret_bool HV.out.symm,HBE.out⟩
theorem fits_k10 (f:FactsV) (ts:List TableD) (q:QueryV) (n:NodeV) (ao:Option Addr) (cap:Nat) (ps:List PartV) (w:World) (ok:Ok ts q) (hf:f.At ts q w) (hcl:n.cl.At w) (hco:n.co.At w) (hcap:n.co.xs.length<=n.co.cap) (hp:PartsAt w ao ps) (hk:n.kind=10) (hl:ps.length=arity n.kind) :
  Calls Tryz.prog 151 #[.agg (f.cells ts q),.agg n.cells,.slice ao ps.length cap] w fun e w'=>e=.returned (.bool (fitsP ts q n (ps.getD 0 pvz).d (ps.getD 1 pvz).d))/\Below w.heap.size w w':=by
 obtain⟨v0,v1,v2,v3,v4,v5,v6,v7,v8,v9,v10,v11,v12,hFC,hv0,hv1,hv2,hv3,hv4,hv5,hv6,-⟩:=factsCells f ts q;have hNC:n.cells=#[.int .i64 n.kind,.int .i64 n.l,.int .i64 n.r,.int .i64 n.source,n.cl.val,.int .i64 n.key,n.co.val]:=rfl;obtain⟨w1,hw1⟩:∃ x,w.alloc (.cells (f.cells ts q) 105)=x:=⟨_,rfl⟩
 have hk1:Below w.heap.size w w1:=by rw[<- hw1]; exact bQ2 _ _
 have hg1:GB w1 w.heap.size 105 (f.cells ts q):=by rw[<- hw1]; exact bQ3 _ _
 obtain⟨w2,hw2⟩:∃ x,w1.alloc (.cells n.cells 58)=x:=⟨_,rfl⟩
 have hk2:Below w1.heap.size w1 w2:=by rw[<- hw2]; exact bQ2 _ _
 have hg2:GB w2 w1.heap.size 58 n.cells:=by rw[<- hw2]; exact bQ3 _ _
 have hc1:=hk2;have hc0:Below w.heap.size w w2:=bQ1 hk1 hc1;have gg1:GB w2 w.heap.size 105 (f.cells ts q):=hg1.of (hc1.block _ hg1.lt);have gg2:=hg2;have g2_0:w2.cell? (aD w1.heap.size 0)=some (.int .i64 n.kind):=gg2.cell 0;have g2_1:w2.cell? (aD w1.heap.size 1)=some (.int .i64 n.l):=gg2.cell 1;have g2_2:w2.cell? (aD w1.heap.size 2)=some (.int .i64 n.r):=gg2.cell 2;have g2_3:w2.cell? (aD w1.heap.size 3)=some (.int .i64 n.source):=gg2.cell 3;have g2_4:w2.cell? (aD w1.heap.size 4)=some (n.cl.val):=gg2.cell 4;have g2_5:w2.cell? (aD w1.heap.size 5)=some (.int .i64 n.key):=gg2.cell 5;have g2_6:w2.cell? (aD w1.heap.size 6)=some (n.co.val):=gg2.cell 6;have g1_0:w2.cell? (aD w.heap.size 0)=some v0:=by rw[hFC] at gg1; exact gg1.cell 0
 have g1_1:w2.cell? (aD w.heap.size 1)=some v1:=by rw[hFC] at gg1; exact gg1.cell 1
 have g1_2:w2.cell? (aD w.heap.size 2)=some v2:=by rw[hFC] at gg1; exact gg1.cell 2
 have g1_3:w2.cell? (aD w.heap.size 3)=some v3:=by rw[hFC] at gg1; exact gg1.cell 3
 have g1_4:w2.cell? (aD w.heap.size 4)=some v4:=by rw[hFC] at gg1; exact gg1.cell 4
 have g1_5:w2.cell? (aD w.heap.size 5)=some v5:=by rw[hFC] at gg1; exact gg1.cell 5
 have g1_6:w2.cell? (aD w.heap.size 6)=some v6:=by rw[hFC] at gg1; exact gg1.cell 6
 have g1_7:w2.cell? (aD w.heap.size 7)=some v7:=by rw[hFC] at gg1; exact gg1.cell 7
 have g1_8:w2.cell? (aD w.heap.size 8)=some v8:=by rw[hFC] at gg1; exact gg1.cell 8
 have g1_9:w2.cell? (aD w.heap.size 9)=some v9:=by rw[hFC] at gg1; exact gg1.cell 9
 have g1_10:w2.cell? (aD w.heap.size 10)=some v10:=by rw[hFC] at gg1; exact gg1.cell 10
 have g1_11:w2.cell? (aD w.heap.size 11)=some v11:=by rw[hFC] at gg1; exact gg1.cell 11
 have g1_12:w2.cell? (aD w.heap.size 12)=some v12:=by rw[hFC] at gg1; exact gg1.cell 12
 have hpw:=hp.1;have hlk:ps.length=1:=by rw[hl,hk]; rfl
 have HC:Hid _:=hc0;obtain⟨RES,hRES⟩:∃ R,R=fitsP ts q n (ps.getD 0 pvz).d (ps.getD 1 pvz).d:=⟨_,rfl⟩
 rw[<- hRES];unfold fitsP at hRES;rw[if_neg (by rw[hk]; decide),if_neg (by rw[hk]; decide),if_neg (by rw[hk]; decide),if_neg (by rw[hk]; decide),if_neg (by rw[hk]; decide),if_neg (by rw[hk]; decide),if_neg (by rw[hk]; decide),if_neg (by rw[hk]; decide),if_neg (by rw[hk]; decide)] at hRES;have hl0:0<ps.length:=by omega
 obtain⟨⟨pb,po,rfl,c0,c1,c2,c3,c4,c5⟩,hLo⟩:=(PartsAt.below hc0 hp).2 0 hl0;rw[Nat.zero_mul,Nat.add_zero] at c0 c1 c2 c3 c4 c5;generalize ps.getD 0 pvz=L at *;generalize ps.getD 1 pvz=R at *;have hRES:RES=decide (0<q.ord.xs.length):=hRES;rw[hv6] at g1_6;have HRE:Hid _:=hRES;rw[hFC,hNC];rw[hFC] at hw1;rw[hNC] at hw2;clear hRES hg1 hg2 gg1 gg2 hk1 hk2 hc0 hc1 hlk hl;clear hf hcl hco hcap hp ok hFC hNC hv0 hv1 hv2 hv3 hv4 hv5 hv6;obtain⟨nk,nl,nr,ns,⟨ca,cc,cl⟩,key,⟨da,dc,co⟩⟩:=n;simp only at hk;subst hk;simp only[PartV.cells,NodeV.cells,IntsV.val] at *;generalize q.ord.xs.length=N at *;by_cases z:0<N
 ·have HV:Hid (RES=true):=by show _=_; rw[HRE.out,decide_eq_true z]
  clear HRE;go_enter Tryz.func151,Tryz.ntmps151;go_wp2;go_ret;exact⟨ret_bool HV.out.symm,HC.out⟩
 ·have HV:Hid (RES=false):=by show _=_; rw[HRE.out,decide_eq_false z]
  have z0:N=0:=by omega
  clear HRE;go_enter Tryz.func151,Tryz.ntmps151;go_wp2;go_ret;exact⟨ret_bool HV.out.symm,HC.out⟩
theorem fits_any (f:FactsV) (ts:List TableD) (q:QueryV) (n:NodeV) (ao:Option Addr) (cap:Nat) (ps:List PartV) (w:World) (ok:Ok ts q) (hf:f.At ts q w) (hcl:n.cl.At w) (hco:n.co.At w) (hcap:n.co.xs.length<=n.co.cap) (hp:PartsAt w ao ps) (hk1:1<=n.kind) (hk10:n.kind<=10) (hl:ps.length=arity n.kind) :
  Calls Tryz.prog 151 #[.agg (f.cells ts q),.agg n.cells,.slice ao ps.length cap] w fun e w'=>e=.returned (.bool (fitsP ts q n (ps.getD 0 pvz).d (ps.getD 1 pvz).d))/\Below w.heap.size w w':=by
 rcases (by omega:n.kind=1∨n.kind=2∨n.kind=3∨n.kind=4∨n.kind=5∨n.kind=6∨n.kind=7∨n.kind=8∨n.kind=9∨n.kind=10) with h | h | h | h | h | h | h | h | h | h
 ·exact fits_k1 f ts q n ao cap ps w ok hf hcl hco hcap hp h hl
 ·exact fits_k2 f ts q n ao cap ps w ok hf hcl hco hcap hp h hl
 ·exact fits_k3 f ts q n ao cap ps w ok hf hcl hco hcap hp h hl
 ·exact fits_k4 f ts q n ao cap ps w ok hf hcl hco hcap hp h hl
 ·exact fits_k5 f ts q n ao cap ps w ok hf hcl hco hcap hp h hl
 ·exact fits_k6 f ts q n ao cap ps w ok hf hcl hco hcap hp h hl
 ·exact fits_k7 f ts q n ao cap ps w ok hf hcl hco hcap hp h hl
 ·exact fits_k8 f ts q n ao cap ps w ok hf hcl hco hcap hp h hl
 ·exact fits_k9 f ts q n ao cap ps w ok hf hcl hco hcap hp h hl
 ·exact fits_k10 f ts q n ao cap ps w ok hf hcl hco hcap hp h hl
end Go.Proofs.YtlpbelhfpoilpaaGreatDoor
namespace Go.Scout
open Go.RowKit
theorem partCells (p:PartV):p.cells=#[.int .i64 p.kind,.int .u64 (p.sources:Int),.int .u64 (p.clauses:Int),p.order.val,.int .u64 (p.size:Int),.int .u64 (p.cost:Int)]:=rfl
theorem workP_le (k:Int) (l r s:Nat):workP k l r s<=topN:=by
 unfold workP
 repeat' split
 ·exact sumN_le _
 ·exact sumN_le _
 ·exact timesN_le _ _
end Go.Scout
namespace Go.Proofs.YtlpbelhfpoilpaaGreatDoor
open Go.RowKit Go.Scout
theorem costOf_any (p:PartV) (ao:Option Addr) (cap:Nat) (ps:List PartV) (w:World) (hp:PartsAt w ao ps) (hz:p.size<=topN) (h1:p.kind≠1->0<ps.length) (h2:3<=p.kind->p.kind<=5->1<ps.length) :
  Calls Tryz.prog 230 #[.agg p.cells,.slice ao ps.length cap] w fun e w'=>e=.returned (.int .u64 (costP p.kind p.size (ps.getD 0 pvz).cost (ps.getD 0 pvz).size (ps.getD 1 pvz).cost (ps.getD 1 pvz).size:Nat))/\Below w.heap.size w w':=by
 obtain⟨w1,hw1⟩:∃ x,w.alloc (.cells p.cells 110)=x:=⟨_,rfl⟩
 have hk1:Below w.heap.size w w1:=by rw[<- hw1]; exact bQ2 _ _
 have hg1:GB w1 w.heap.size 110 p.cells:=by rw[<- hw1]; exact bQ3 _ _
 have hc0:Below w.heap.size w w1:=hk1;have gg1:=hg1;have g1_0:w1.cell? (aD w.heap.size 0)=some (.int .i64 p.kind):=gg1.cell 0;have g1_4:w1.cell? (aD w.heap.size 4)=some (.int .u64 (p.size:Int)):=gg1.cell 4;have HC:Hid _:=hc0;generalize hPC:p.cells=PC at *;clear hPC;by_cases k1:p.kind=1
 ·have HV:Hid (costP p.kind p.size (ps.getD 0 pvz).cost (ps.getD 0 pvz).size (ps.getD 1 pvz).cost (ps.getD 1 pvz).size=sumN [p.size,1]):=by show _=_; unfold costP; rw[if_pos k1]
  generalize costP p.kind p.size (ps.getD 0 pvz).cost (ps.getD 0 pvz).size (ps.getD 1 pvz).cost (ps.getD 1 pvz).size=R at *;have hS:=sum2 w1 p.size 1 hz (by unfold topN; omega);rw[<- HV.out] at hS;have kb:(p.kind==1)=true:=by simp[k1]
  clear HV k1 h1 h2 hz hg1 gg1 hk1 hc0 hp;generalize p.kind=k at *;generalize p.size=s at *;go_enter Tryz.func230,Tryz.ntmps230;go_wp2_with fail;refine hS.mono ?_;clear hS;rintro e w2 ⟨rfl,hb2⟩;have HB:Hid _:=bQ1 HC.out hb2;clear hb2;go_wp2;go_ret;exact⟨rfl,HB.out⟩
 have hn0:=h1 k1;have hpl:=hp.1;obtain⟨⟨pb,po,rfl,c0,c1,c2,c3,c4,c5⟩,hl⟩:=hp.2 0 hn0;rw[Nat.zero_mul,Nat.add_zero] at c0 c1 c2 c3 c4 c5;have HP1:Hid (1<ps.length->w.cell? (aD pb (po+6))=some (.int .i64 (ps.getD 1 pvz).kind)/\w.cell? (aD pb (po+6+1))=some (.int .u64 ((ps.getD 1 pvz).sources:Int))/\
  w.cell? (aD pb (po+6+2))=some (.int .u64 ((ps.getD 1 pvz).clauses:Int))/\w.cell? (aD pb (po+6+3))=some (ps.getD 1 pvz).order.val/\
  w.cell? (aD pb (po+6+4))=some (.int .u64 ((ps.getD 1 pvz).size:Int))/\w.cell? (aD pb (po+6+5))=some (.int .u64 ((ps.getD 1 pvz).cost:Int))/\(ps.getD 1 pvz).size<=topN/\(ps.getD 1 pvz).cost<=topN):=fun h=>by
  obtain⟨⟨b',o',e,d0,d1,d2,d3,d4,d5⟩,hr⟩:=hp.2 1 h
  cases e
  rw[Nat.one_mul] at d0 d1 d2 d3 d4 d5;exact⟨d0,d1,d2,d3,d4,d5,hr.size,hr.cost⟩
 have hlz:=hl.size;have hlc:=hl.cost;obtain⟨R,hR⟩:∃ R,R=costP p.kind p.size (ps.getD 0 pvz).cost (ps.getD 0 pvz).size (ps.getD 1 pvz).cost (ps.getD 1 pvz).size:=⟨_,rfl⟩
 rw[<- hR];unfold costP at hR;rw[if_neg k1] at hR;have HV:Hid _:=hR;clear hR;have h2':=h2;clear hp hl h1 h2 hg1 gg1;generalize p.kind=k at *;generalize p.size=s at *;generalize ps.getD 0 pvz=l at *;generalize ps.getD 1 pvz=r at *;obtain⟨lk,ls,lcl,⟨la,lcp,lx⟩,lz,lc⟩:=l;obtain⟨rk,rs,rcl,⟨ra,rcp,rx⟩,rz,rc⟩:=r;unfold IntsV.val at *;simp only at *;obtain⟨w2,hw2⟩:∃ x,w1.alloc (.cells #[.int .i64 lk,.int .u64 (ls:Int),.int .u64 (lcl:Int),.slice la lx.length lcp,.int .u64 (lz:Int),.int .u64 (lc:Int)] 110)=x:=⟨_,rfl⟩
 have hk2:Below w1.heap.size w1 w2:=by rw[<- hw2]; exact bQ2 _ _
 have hg2:GB w2 w1.heap.size 110 #[.int .i64 lk,.int .u64 (ls:Int),.int .u64 (lcl:Int),.slice la lx.length lcp,.int .u64 (lz:Int),.int .u64 (lc:Int)]:=by rw[<- hw2]; exact bQ3 _ _
 have d0:=cB hc0 c0;have d1:=cB hc0 c1;have d2:=cB hc0 c2;have d3:=cB hc0 c3;have d4:=cB hc0 c4;have d5:=cB hc0 c5;have m0:=cB hk2 g1_0;have m4:=cB hk2 g1_4;have l4:w2.cell? (aD w1.heap.size 4)=some (.int .u64 (lz:Int)):=hg2.cell 4;have l5:w2.cell? (aD w1.heap.size 5)=some (.int .u64 (lc:Int)):=hg2.cell 5;have HC2:Hid _:=bQ1 HC.out hk2;have kb1:(k==1)=false:=by simp[k1]
 clear c0 c1 c2 c3 c4 c5 hg2 hk1 hc0 hk2 k1;go_enter Tryz.func230,Tryz.ntmps230;go_wp2;refine wp_region_below (by kernel_rfl) (by kernel_rfl) ?_;go_big_quiet_want;refine⟨.pointer (some (aD w1.heap.size 4)),fun x hx=>?_,?_⟩
 ·go_simp
 simp only[pA,sB,sC];go_big_quiet_on;go_big_quiet_want;refine⟨.int .u64 (lz:Int),fun x hx=>?_,?_⟩
 ·have e0:=cB hx l4;go_simp
 simp only[pA,sB,sC];go_big_quiet_on;go_big_quiet_want;refine⟨.pointer (some (aD w.heap.size 4)),fun x hx=>?_,?_⟩
 ·go_simp
 simp only[pA,sB,sC];go_big_quiet_on;go_big_quiet_want;refine⟨.int .u64 (s:Int),fun x hx=>?_,?_⟩
 ·have e0:=cB hx m4;go_simp
 simp only[pA,sB,sC];go_big_quiet_on;go_big_quiet_want;refine⟨.int .u64 (lz:Int),fun x hx=>?_,?_⟩
 ·go_simp
 simp only[pA,sB,sC];go_big_quiet_on;go_big_quiet_want;refine⟨.int .u64 (s:Int),fun x hx=>?_,?_⟩
 ·go_simp
 simp only[pA,sB,sC];go_big_quiet_on;refine wpQuiet_nil ?_;intro w3 hb3;have n0:=cB hb3 m0;have n5:=cB hb3 l5;have HC3:Hid _:=bQ1 HC2.out hb3;have HPr:Hid (1<ps.length->_):=fun h=>HP1.out h
 clear hw1 hw2 m0 m4 l4 l5 hb3 d0 d1 d2 d3 d4 d5 g1_0 g1_4 HP1 HC HC2;by_cases k345:k=3∨k=4∨k=5
 ·rw[if_pos k345] at HV;obtain⟨q0,q1,q2,q3,q4,q5,hrz,hrc⟩:=HPr.out (h2' (by omega) (by omega));have e0:=cB HC3.out q0;have e1:=cB HC3.out q1;have e2:=cB HC3.out q2;have e3:=cB HC3.out q3;have e4:=cB HC3.out q4;have e5:=cB HC3.out q5;have hlen2:=h2' (by omega) (by omega);obtain⟨w4,hw4⟩:∃ x,w3.alloc (.cells #[.int .i64 rk,.int .u64 (rs:Int),.int .u64 (rcl:Int),.slice ra rx.length rcp,.int .u64 (rz:Int),.int .u64 (rc:Int)] 110)=x:=⟨_,rfl⟩
  have hk4:Below w3.heap.size w3 w4:=by rw[<- hw4]; exact bQ2 _ _
  have hg4:GB w4 w3.heap.size 110 #[.int .i64 rk,.int .u64 (rs:Int),.int .u64 (rcl:Int),.slice ra rx.length rcp,.int .u64 (rz:Int),.int .u64 (rc:Int)]:=by rw[<- hw4]; exact bQ3 _ _
  have r4:w4.cell? (aD w3.heap.size 4)=some (.int .u64 (rz:Int)):=hg4.cell 4;have r5:w4.cell? (aD w3.heap.size 5)=some (.int .u64 (rc:Int)):=hg4.cell 5;have t0:=cB hk4 n0;have t5:=cB hk4 n5;have HC4:Hid _:=bQ1 HC3.out hk4;have HJW:Hid (∀ x,_):=fun x=>joinWork_any k lz rz s x hlz hrz hz
  have HWL:Hid (workP k lz rz s<=topN):=workP_le _ _ _ _;have HS3:Hid (∀ (x:World) (m:Nat),m<=topN->_):=fun x m hm=>sum3 x lc rc m hlc hrc hm
  generalize workP k lz rz s=wk at *;clear q0 q1 q2 q3 q4 q5 hk4 hg4 h2' HPr hlz hlc hrz hrc hz;have HK:Hid _:=k345;clear k345;rcases HK.out with h | h | h
  ·subst h;clear HK;go_wp2;refine wp_region_held_drew (S:=fun x=>Below w4.heap.size w4 x) (by kernel_rfl) ((Below.refl _ _).drew) (fun hS=>?_);refine wpAnyH_take (i:=0) (v:=.pointer (some (aD w1.heap.size 5))) rfl (by kernel_rfl) (by kernel_rfl) (by kernel_rfl) (fun _ _ _ h=>h) (.inl ⟨by rfl,fun x hx=>?_⟩) hS ?_
   ·go_simp
   refine wpAnyH_take (i:=1) (v:=.int .u64 (lc:Int)) rfl (by kernel_rfl) (by kernel_rfl) (by kernel_rfl) (fun _ _ _ h=>h) (.inl ⟨by rfl,fun x hx=>?_⟩) hS ?_
   ·have e0:=cB hx t5;go_simp
   refine wpAnyH_take (i:=2) (v:=.pointer (some (aD w3.heap.size 5))) rfl (by kernel_rfl) (by kernel_rfl) (by kernel_rfl) (fun _ _ _ h=>h) (.inl ⟨by rfl,fun x hx=>?_⟩) hS ?_
   ·go_simp
   refine wpAnyH_take (i:=3) (v:=.int .u64 (rc:Int)) rfl (by kernel_rfl) (by kernel_rfl) (by kernel_rfl) (fun _ _ _ h=>h) (.inl ⟨by rfl,fun x hx=>?_⟩) hS ?_
   ·have e0:=cB hx r5;go_simp
   refine wpAnyH_take (i:=4) (v:=.pointer (some (aD w.heap.size 0))) rfl (by kernel_rfl) (by kernel_rfl) (by kernel_rfl) (fun _ _ _ h=>h) (.inl ⟨by rfl,fun x hx=>?_⟩) hS ?_
   ·go_simp
   refine wpAnyH_take (i:=5) (v:=.int .i64 3) rfl (by kernel_rfl) (by kernel_rfl) (by kernel_rfl) (fun _ _ _ h=>h) (.inl ⟨by rfl,fun x hx=>?_⟩) hS ?_
   ·have e0:=cB hx t0;go_simp
   refine wpAnyH_take (i:=6) (v:=.int .u64 (lz:Int)) rfl (by kernel_rfl) (by kernel_rfl) (by kernel_rfl) (fun _ _ _ h=>h) (.inl ⟨by rfl,fun x hx=>?_⟩) hS ?_
   ·go_simp
   refine wpAnyH_take (i:=7) (v:=.pointer (some (aD w3.heap.size 4))) rfl (by kernel_rfl) (by kernel_rfl) (by kernel_rfl) (fun _ _ _ h=>h) (.inl ⟨by rfl,fun x hx=>?_⟩) hS ?_
   ·go_simp
   refine wpAnyH_take (i:=8) (v:=.int .u64 (rz:Int)) rfl (by kernel_rfl) (by kernel_rfl) (by kernel_rfl) (fun _ _ _ h=>h) (.inl ⟨by rfl,fun x hx=>?_⟩) hS ?_
   ·have e0:=cB hx r4;go_simp
   refine wpAnyH_take (i:=9) (v:=.int .u64 (s:Int)) rfl (by kernel_rfl) (by kernel_rfl) (by kernel_rfl) (fun _ _ _ h=>h) (.inl ⟨by rfl,fun x hx=>?_⟩) hS ?_
   ·go_simp
   refine wpAnyH_ready (rs:=[10]) (by kernel_rfl) (by simp) ?_;refine AllReadyH.cons rfl (fun K hK=>?_) AllReadyH.nil;go_simp;refine Calls.mono (HJW.out _) ?_;rintro e w5 ⟨rfl,hb5⟩;refine hK.out _ _ (hS.trans (hb5.mono hS.size)) (fun hS=>?_);clear hK K;refine wpAnyH_ready (rs:=[11]) (by kernel_rfl) (by simp) ?_;refine AllReadyH.cons rfl (fun K hK=>?_) AllReadyH.nil;go_simp;refine hK.out _ _ (hS.trans (bQ2 _ _ |>.mono hS.size)) (fun hS=>?_);clear hK K;refine wpAnyH_ready (rs:=[12]) (by kernel_rfl) (by simp) ?_;refine AllReadyH.cons rfl (fun K hK=>?_) AllReadyH.nil;go_simp;refine Calls.mono (HS3.out w5 wk HWL.out) ?_;rintro e w6 ⟨rfl,hb6⟩;refine hK.out _ _ ((Below.trans (((Below.refl _ _).drew).trans (hb5.mono (by simp))) (hb6.mono (by have:=hb5.size; simp at this; omega)))) (fun hS=>?_);clear hK K;refine wpAnyH_ready (rs:=[13]) (by kernel_rfl) (by simp) ?_;refine AllReadyH.cons rfl (fun K hK=>?_) AllReadyH.nil;go_simp;refine hK.out _ _ hS (fun hS=>?_);clear hK K;refine wpAnyH_done (by kernel_rfl) ?_ _
   try simp only[pA,sB,sC]
   have HB:Hid _:=bQ1 HC4.out hS;rw[<- HV.out];clear hS hb5 hb6 HV;go_wp2;go_ret;exact⟨rfl,HB.out⟩
  ·subst h;clear HK;go_wp2;refine wp_region_held_drew (S:=fun x=>Below w4.heap.size w4 x) (by kernel_rfl) ((Below.refl _ _).drew) (fun hS=>?_);refine wpAnyH_take (i:=0) (v:=.pointer (some (aD w1.heap.size 5))) rfl (by kernel_rfl) (by kernel_rfl) (by kernel_rfl) (fun _ _ _ h=>h) (.inl ⟨by rfl,fun x hx=>?_⟩) hS ?_
   ·go_simp
   refine wpAnyH_take (i:=1) (v:=.int .u64 (lc:Int)) rfl (by kernel_rfl) (by kernel_rfl) (by kernel_rfl) (fun _ _ _ h=>h) (.inl ⟨by rfl,fun x hx=>?_⟩) hS ?_
   ·have e0:=cB hx t5;go_simp
   refine wpAnyH_take (i:=2) (v:=.pointer (some (aD w3.heap.size 5))) rfl (by kernel_rfl) (by kernel_rfl) (by kernel_rfl) (fun _ _ _ h=>h) (.inl ⟨by rfl,fun x hx=>?_⟩) hS ?_
   ·go_simp
   refine wpAnyH_take (i:=3) (v:=.int .u64 (rc:Int)) rfl (by kernel_rfl) (by kernel_rfl) (by kernel_rfl) (fun _ _ _ h=>h) (.inl ⟨by rfl,fun x hx=>?_⟩) hS ?_
   ·have e0:=cB hx r5;go_simp
   refine wpAnyH_take (i:=4) (v:=.pointer (some (aD w.heap.size 0))) rfl (by kernel_rfl) (by kernel_rfl) (by kernel_rfl) (fun _ _ _ h=>h) (.inl ⟨by rfl,fun x hx=>?_⟩) hS ?_
   ·go_simp
   refine wpAnyH_take (i:=5) (v:=.int .i64 4) rfl (by kernel_rfl) (by kernel_rfl) (by kernel_rfl) (fun _ _ _ h=>h) (.inl ⟨by rfl,fun x hx=>?_⟩) hS ?_
   ·have e0:=cB hx t0;go_simp
   refine wpAnyH_take (i:=6) (v:=.int .u64 (lz:Int)) rfl (by kernel_rfl) (by kernel_rfl) (by kernel_rfl) (fun _ _ _ h=>h) (.inl ⟨by rfl,fun x hx=>?_⟩) hS ?_
   ·go_simp
   refine wpAnyH_take (i:=7) (v:=.pointer (some (aD w3.heap.size 4))) rfl (by kernel_rfl) (by kernel_rfl) (by kernel_rfl) (fun _ _ _ h=>h) (.inl ⟨by rfl,fun x hx=>?_⟩) hS ?_
   ·go_simp
   refine wpAnyH_take (i:=8) (v:=.int .u64 (rz:Int)) rfl (by kernel_rfl) (by kernel_rfl) (by kernel_rfl) (fun _ _ _ h=>h) (.inl ⟨by rfl,fun x hx=>?_⟩) hS ?_
   ·have e0:=cB hx r4;go_simp
   refine wpAnyH_take (i:=9) (v:=.int .u64 (s:Int)) rfl (by kernel_rfl) (by kernel_rfl) (by kernel_rfl) (fun _ _ _ h=>h) (.inl ⟨by rfl,fun x hx=>?_⟩) hS ?_
   ·go_simp
   refine wpAnyH_ready (rs:=[10]) (by kernel_rfl) (by simp) ?_;refine AllReadyH.cons rfl (fun K hK=>?_) AllReadyH.nil;go_simp;refine Calls.mono (HJW.out _) ?_;rintro e w5 ⟨rfl,hb5⟩;refine hK.out _ _ (hS.trans (hb5.mono hS.size)) (fun hS=>?_);clear hK K;refine wpAnyH_ready (rs:=[11]) (by kernel_rfl) (by simp) ?_;refine AllReadyH.cons rfl (fun K hK=>?_) AllReadyH.nil;go_simp;refine hK.out _ _ (hS.trans (bQ2 _ _ |>.mono hS.size)) (fun hS=>?_);clear hK K;refine wpAnyH_ready (rs:=[12]) (by kernel_rfl) (by simp) ?_;refine AllReadyH.cons rfl (fun K hK=>?_) AllReadyH.nil;go_simp;refine Calls.mono (HS3.out w5 wk HWL.out) ?_;rintro e w6 ⟨rfl,hb6⟩;refine hK.out _ _ ((Below.trans (((Below.refl _ _).drew).trans (hb5.mono (by simp))) (hb6.mono (by have:=hb5.size; simp at this; omega)))) (fun hS=>?_);clear hK K;refine wpAnyH_ready (rs:=[13]) (by kernel_rfl) (by simp) ?_;refine AllReadyH.cons rfl (fun K hK=>?_) AllReadyH.nil;go_simp;refine hK.out _ _ hS (fun hS=>?_);clear hK K;refine wpAnyH_done (by kernel_rfl) ?_ _
   try simp only[pA,sB,sC]
   have HB:Hid _:=bQ1 HC4.out hS;rw[<- HV.out];clear hS hb5 hb6 HV;go_wp2;go_ret;exact⟨rfl,HB.out⟩
  ·subst h;clear HK;go_wp2;refine wp_region_held_drew (S:=fun x=>Below w4.heap.size w4 x) (by kernel_rfl) ((Below.refl _ _).drew) (fun hS=>?_);refine wpAnyH_take (i:=0) (v:=.pointer (some (aD w1.heap.size 5))) rfl (by kernel_rfl) (by kernel_rfl) (by kernel_rfl) (fun _ _ _ h=>h) (.inl ⟨by rfl,fun x hx=>?_⟩) hS ?_
   ·go_simp
   refine wpAnyH_take (i:=1) (v:=.int .u64 (lc:Int)) rfl (by kernel_rfl) (by kernel_rfl) (by kernel_rfl) (fun _ _ _ h=>h) (.inl ⟨by rfl,fun x hx=>?_⟩) hS ?_
   ·have e0:=cB hx t5;go_simp
   refine wpAnyH_take (i:=2) (v:=.pointer (some (aD w3.heap.size 5))) rfl (by kernel_rfl) (by kernel_rfl) (by kernel_rfl) (fun _ _ _ h=>h) (.inl ⟨by rfl,fun x hx=>?_⟩) hS ?_
   ·go_simp
   refine wpAnyH_take (i:=3) (v:=.int .u64 (rc:Int)) rfl (by kernel_rfl) (by kernel_rfl) (by kernel_rfl) (fun _ _ _ h=>h) (.inl ⟨by rfl,fun x hx=>?_⟩) hS ?_
   ·have e0:=cB hx r5;go_simp
   refine wpAnyH_take (i:=4) (v:=.pointer (some (aD w.heap.size 0))) rfl (by kernel_rfl) (by kernel_rfl) (by kernel_rfl) (fun _ _ _ h=>h) (.inl ⟨by rfl,fun x hx=>?_⟩) hS ?_
   ·go_simp
   refine wpAnyH_take (i:=5) (v:=.int .i64 5) rfl (by kernel_rfl) (by kernel_rfl) (by kernel_rfl) (fun _ _ _ h=>h) (.inl ⟨by rfl,fun x hx=>?_⟩) hS ?_
   ·have e0:=cB hx t0;go_simp
   refine wpAnyH_take (i:=6) (v:=.int .u64 (lz:Int)) rfl (by kernel_rfl) (by kernel_rfl) (by kernel_rfl) (fun _ _ _ h=>h) (.inl ⟨by rfl,fun x hx=>?_⟩) hS ?_
   ·go_simp
   refine wpAnyH_take (i:=7) (v:=.pointer (some (aD w3.heap.size 4))) rfl (by kernel_rfl) (by kernel_rfl) (by kernel_rfl) (fun _ _ _ h=>h) (.inl ⟨by rfl,fun x hx=>?_⟩) hS ?_
   ·go_simp
   refine wpAnyH_take (i:=8) (v:=.int .u64 (rz:Int)) rfl (by kernel_rfl) (by kernel_rfl) (by kernel_rfl) (fun _ _ _ h=>h) (.inl ⟨by rfl,fun x hx=>?_⟩) hS ?_
   ·have e0:=cB hx r4;go_simp
   refine wpAnyH_take (i:=9) (v:=.int .u64 (s:Int)) rfl (by kernel_rfl) (by kernel_rfl) (by kernel_rfl) (fun _ _ _ h=>h) (.inl ⟨by rfl,fun x hx=>?_⟩) hS ?_
   ·go_simp
   refine wpAnyH_ready (rs:=[10]) (by kernel_rfl) (by simp) ?_;refine AllReadyH.cons rfl (fun K hK=>?_) AllReadyH.nil;go_simp;refine Calls.mono (HJW.out _) ?_;rintro e w5 ⟨rfl,hb5⟩;refine hK.out _ _ (hS.trans (hb5.mono hS.size)) (fun hS=>?_);clear hK K;refine wpAnyH_ready (rs:=[11]) (by kernel_rfl) (by simp) ?_;refine AllReadyH.cons rfl (fun K hK=>?_) AllReadyH.nil;go_simp;refine hK.out _ _ (hS.trans (bQ2 _ _ |>.mono hS.size)) (fun hS=>?_);clear hK K;refine wpAnyH_ready (rs:=[12]) (by kernel_rfl) (by simp) ?_;refine AllReadyH.cons rfl (fun K hK=>?_) AllReadyH.nil;go_simp;refine Calls.mono (HS3.out w5 wk HWL.out) ?_;rintro e w6 ⟨rfl,hb6⟩;refine hK.out _ _ ((Below.trans (((Below.refl _ _).drew).trans (hb5.mono (by simp))) (hb6.mono (by have:=hb5.size; simp at this; omega)))) (fun hS=>?_);clear hK K;refine wpAnyH_ready (rs:=[13]) (by kernel_rfl) (by simp) ?_;refine AllReadyH.cons rfl (fun K hK=>?_) AllReadyH.nil;go_simp;refine hK.out _ _ hS (fun hS=>?_);clear hK K;refine wpAnyH_done (by kernel_rfl) ?_ _
   try simp only[pA,sB,sC]
   have HB:Hid _:=bQ1 HC4.out hS;rw[<- HV.out];clear hS hb5 hb6 HV;go_wp2;go_ret;exact⟨rfl,HB.out⟩
 rw[if_neg k345] at HV;have kb3:(k==3)=false:=by simp; omega
 have kb4:(k==4)=false:=by simp; omega
 have kb5:(k==5)=false:=by simp; omega
 by_cases k6:k=6∨k=10
 ·rw[if_pos k6] at HV;have HSW:Hid (∀ x,_):=fun x=>sortWork_any lz x hlz
  have HWL:Hid (timesN lz (bitsN lz+1)<=topN):=timesN_le _ _;have HS2:Hid (∀ (x:World) (m:Nat),m<=topN->_):=fun x m hm=>sum2 x lc m hlc hm
  generalize timesN lz (bitsN lz+1)=wk at *;clear h2' HPr hlz hlc hz k345;have HK:Hid _:=k6;clear k6;rcases HK.out with h | h
  ·subst h;clear HK;go_wp2;refine wp_region_held_drew (S:=fun x=>Below w3.heap.size w3 x) (by kernel_rfl) ((Below.refl _ _).drew) (fun hS=>?_);refine wpAnyH_take (i:=0) (v:=.pointer (some (aD w1.heap.size 5))) rfl (by kernel_rfl) (by kernel_rfl) (by kernel_rfl) (fun _ _ _ h=>h) (.inl ⟨by rfl,fun x hx=>?_⟩) hS ?_
   ·go_simp
   refine wpAnyH_take (i:=1) (v:=.int .u64 (lc:Int)) rfl (by kernel_rfl) (by kernel_rfl) (by kernel_rfl) (fun _ _ _ h=>h) (.inl ⟨by rfl,fun x hx=>?_⟩) hS ?_
   ·have e0:=cB hx n5;go_simp
   refine wpAnyH_take (i:=2) (v:=.int .u64 (lz:Int)) rfl (by kernel_rfl) (by kernel_rfl) (by kernel_rfl) (fun _ _ _ h=>h) (.inl ⟨by rfl,fun x hx=>?_⟩) hS ?_
   ·go_simp
   refine wpAnyH_ready (rs:=[3]) (by kernel_rfl) (by simp) ?_;refine AllReadyH.cons rfl (fun K hK=>?_) AllReadyH.nil;go_simp;refine Calls.mono (HSW.out _) ?_;rintro e w5 ⟨rfl,rfl⟩;refine hK.out _ _ (hS) (fun hS=>?_);clear hK K;refine wpAnyH_ready (rs:=[4]) (by kernel_rfl) (by simp) ?_;refine AllReadyH.cons rfl (fun K hK=>?_) AllReadyH.nil;go_simp;refine hK.out _ _ (hS.trans (bQ2 _ _ |>.mono hS.size)) (fun hS=>?_);clear hK K;refine wpAnyH_ready (rs:=[5]) (by kernel_rfl) (by simp) ?_;refine AllReadyH.cons rfl (fun K hK=>?_) AllReadyH.nil;go_simp;refine Calls.mono (HS2.out w3.drew wk HWL.out) ?_;rintro e w6 ⟨rfl,hb6⟩;refine hK.out _ _ ((((Below.refl _ _).drew).trans (hb6.mono (by simp)))) (fun hS=>?_);clear hK K;refine wpAnyH_ready (rs:=[6]) (by kernel_rfl) (by simp) ?_;refine AllReadyH.cons rfl (fun K hK=>?_) AllReadyH.nil;go_simp;refine hK.out _ _ hS (fun hS=>?_);clear hK K;refine wpAnyH_done (by kernel_rfl) ?_ _
   try simp only[pA,sB,sC]
   have HB:Hid _:=bQ1 HC3.out hS;rw[<- HV.out];clear hS hb6 HV;go_wp2;go_ret;exact⟨rfl,HB.out⟩
  ·subst h;clear HK;go_wp2;refine wp_region_held_drew (S:=fun x=>Below w3.heap.size w3 x) (by kernel_rfl) ((Below.refl _ _).drew) (fun hS=>?_);refine wpAnyH_take (i:=0) (v:=.pointer (some (aD w1.heap.size 5))) rfl (by kernel_rfl) (by kernel_rfl) (by kernel_rfl) (fun _ _ _ h=>h) (.inl ⟨by rfl,fun x hx=>?_⟩) hS ?_
   ·go_simp
   refine wpAnyH_take (i:=1) (v:=.int .u64 (lc:Int)) rfl (by kernel_rfl) (by kernel_rfl) (by kernel_rfl) (fun _ _ _ h=>h) (.inl ⟨by rfl,fun x hx=>?_⟩) hS ?_
   ·have e0:=cB hx n5;go_simp
   refine wpAnyH_take (i:=2) (v:=.int .u64 (lz:Int)) rfl (by kernel_rfl) (by kernel_rfl) (by kernel_rfl) (fun _ _ _ h=>h) (.inl ⟨by rfl,fun x hx=>?_⟩) hS ?_
   ·go_simp
   refine wpAnyH_ready (rs:=[3]) (by kernel_rfl) (by simp) ?_;refine AllReadyH.cons rfl (fun K hK=>?_) AllReadyH.nil;go_simp;refine Calls.mono (HSW.out _) ?_;rintro e w5 ⟨rfl,rfl⟩;refine hK.out _ _ (hS) (fun hS=>?_);clear hK K;refine wpAnyH_ready (rs:=[4]) (by kernel_rfl) (by simp) ?_;refine AllReadyH.cons rfl (fun K hK=>?_) AllReadyH.nil;go_simp;refine hK.out _ _ (hS.trans (bQ2 _ _ |>.mono hS.size)) (fun hS=>?_);clear hK K;refine wpAnyH_ready (rs:=[5]) (by kernel_rfl) (by simp) ?_;refine AllReadyH.cons rfl (fun K hK=>?_) AllReadyH.nil;go_simp;refine Calls.mono (HS2.out w3.drew wk HWL.out) ?_;rintro e w6 ⟨rfl,hb6⟩;refine hK.out _ _ ((((Below.refl _ _).drew).trans (hb6.mono (by simp)))) (fun hS=>?_);clear hK K;refine wpAnyH_ready (rs:=[6]) (by kernel_rfl) (by simp) ?_;refine AllReadyH.cons rfl (fun K hK=>?_) AllReadyH.nil;go_simp;refine hK.out _ _ hS (fun hS=>?_);clear hK K;refine wpAnyH_done (by kernel_rfl) ?_ _
   try simp only[pA,sB,sC]
   have HB:Hid _:=bQ1 HC3.out hS;rw[<- HV.out];clear hS hb6 HV;go_wp2;go_ret;exact⟨rfl,HB.out⟩
 rw[if_neg k6] at HV;have kb6:(k==6)=false:=by simp; omega
 have kb10:(k==10)=false:=by simp; omega
 by_cases k7:k=7
 ·rw[if_pos k7] at HV;subst k7;have hS3:=sum3 w3 lc lz lz hlc hlz hlz;rw[<- HV.out] at hS3;clear h2' HPr hlz hlc hz k345 k6 HV;go_wp2_with fail;refine hS3.mono ?_;clear hS3;rintro e w4 ⟨rfl,hb4⟩;have HB:Hid _:=bQ1 HC3.out hb4;clear hb4;go_wp2;go_ret;exact⟨rfl,HB.out⟩
 rw[if_neg k7] at HV;have kb7:(k==7)=false:=by simp; omega
 have hS2:=sum2 w3 lc lz hlc hlz;rw[<- HV.out] at hS2;clear h2' HPr hlz hlc hz k345 k6 k7 HV;go_wp2_with fail;refine hS2.mono ?_;clear hS2;rintro e w4 ⟨rfl,hb4⟩;have HB:Hid _:=bQ1 HC3.out hb4;clear hb4;go_wp2;go_ret;exact⟨rfl,HB.out⟩
end Go.Proofs.YtlpbelhfpoilpaaGreatDoor
namespace Go.Scout
open Go.RowKit
theorem rising_lt {s n:Nat} (h:s<2 ^ n) {i:Nat} (hi:i∈risingN s):i<n:=by
 unfold risingN at hi;have hb:=(List.mem_filter.1 hi).2;rcases Nat.lt_or_ge i n with h' | h'
 ·exact h'
 ·have:s.testBit i=false:=Nat.testBit_lt_two_pow (Nat.lt_of_lt_of_le h (Nat.pow_le_pow_right (by omega) h'));rw[this] at hb
  cases hb
theorem rises_small {ts:List TableD} {q:QueryV} {l:List Int} {s:Nat} (h:risesB ts q l s=true):SmallL q.wh.length l:=fun x hx=>by
 unfold risesB at h;rw[List.all_eq_true] at h;have h2:∀ i,i<l.length->(if i=0 then -1 else l.getD (i-1) 0)<l.getD i 0/\l.getD i 0<q.wh.length:=fun i hi=>by
  have:=h i (List.mem_range.2 hi);rw[Bool.and_eq_true,Bool.and_eq_true,decide_eq_true_eq,decide_eq_true_eq] at this;exact this.1
 have h3:∀ i,i<l.length->0<=l.getD i 0:=by
  intro i
  induction i with
  | zero => intro hi; have:=(h2 0 hi).1; rw[if_pos rfl] at this; omega
  | succ i ih =>
   intro hi;have:=(h2 (i+1) hi).1;rw[if_neg (by omega),Nat.add_sub_cancel] at this;have:=ih (by omega);omega
 obtain⟨i,hi,e⟩:=List.getElem_of_mem hx;have e2:l.getD i 0=x:=by rw[<- e]; simp[List.getD,hi]
 rw[<- e2];exact⟨h3 i hi,(h2 i hi).2⟩
theorem div_fold_le (g:Nat->Nat):∀ (l:List Nat) (m:Nat),l.foldl (fun x c=>x / g c) m<=m
 | [],m => Nat.le_refl _
 | a::l,m => by
  rw[List.foldl_cons];exact Nat.le_trans (div_fold_le g l _) (Nat.div_le_self _ _)
theorem sizeP_le (ts:List TableD) (q:QueryV) (s c:Nat):sizeP ts q s c<=topN:=by
 unfold sizeP;have h1:=timesN_fold_le ((risingN s).map fun (k:Nat)=>rowsN ts q.src.xs (k:Int)) 1 (by unfold topN; omega);split
 ·exact Nat.zero_le _
 ·have:=div_fold_le (fun c=>partsN ts q.src.xs (q.wh.getD c lz).cs) (risingN c) (((risingN s).map fun (k:Nat)=>rowsN ts q.src.xs (k:Int)).foldl timesN 1);rw[Nat.max_def];split
  ·unfold topN; omega
  ·exact Nat.le_trans this h1
theorem costP_le (k:Int) (s lc ls rc rs:Nat):costP k s lc ls rc rs<=topN:=by
 unfold costP
 repeat' split
 all_goals exact sumN_le _
theorem fits_small {ts:List TableD} {q:QueryV} {n:NodeV} {l r:PartD} {i:Nat} (hs:standsP n i=true) (hf:fitsP ts q n l r=true):SmallL q.wh.length n.cl.xs/\(n.kind=1->0<=n.source/\n.source<q.src.xs.length):=by
 have hm:moreP n=true:=by
  unfold standsP at hs;simp only[Bool.and_eq_true] at hs;exact hs.1.1.2
 have h0:(n.kind=2∨3<=n.kind/\n.kind<=5)∨n.cl.xs=[]:=by
  unfold moreP at hm;rw[decide_eq_true_eq] at hm;rcases hm.2.2.2.2.1 with h | h | h
  ·exact .inl (.inl h)
  ·exact .inl (.inr h)
  ·exact .inr (List.length_eq_zero_iff.1 h)
 unfold fitsP at hf;constructor
 ·rcases h0 with h | h
  ·rw[if_neg (by omega)] at hf;by_cases k2:n.kind=2
   ·rw[if_pos k2,Bool.and_eq_true] at hf;exact rises_small hf.2
   rw[if_neg k2] at hf;have hj:joinP ts q n l.sources r.sources=true:=by
    by_cases k3:n.kind=3
    ·rw[if_pos k3] at hf; exact hf
    rw[if_neg k3] at hf;by_cases k4:n.kind=4
    ·rw[if_pos k4,Bool.and_eq_true] at hf; exact hf.2
    rw[if_neg k4,if_pos (by omega)] at hf;simp only[Bool.and_eq_true] at hf;exact hf.1.1.2
   unfold joinP at hj;rw[Bool.and_eq_true] at hj;exact rises_small hj.2
  ·rw[h];exact fun x hx=>by cases hx
 ·intro h1;rw[if_pos h1,Bool.and_eq_true,decide_eq_true_eq,decide_eq_true_eq] at hf;exact hf
variable {α κ:Type} (E:El α κ)
def SeqB (P:Program) (g:Nat) (s:Value) (rows:List κ) (w0:World):Prop:=
 ∀ (l:Nat) (J:List α->(Nat->Prop)->World->Prop) (W:World) (o:Nat->Prop),
  Below w0.heap.size w0 W->(∀ b,o b->w0.heap.size<=b/\b<W.heap.size)->
  (∀ pre o1 A B,J pre o1 A->Kept (fun b=>o1 b∨b<W.heap.size) A B->J pre o1 B)->
  (∀ pre x o1 W1,J pre o1 W1->(pre++[x]).map E.key <+: rows->E.At x W1->(∀ b,E.blk x=some b->¬ o1 b/\(b<w0.heap.size∨W.heap.size<=b))->W.heap.size<=W1.heap.size->
   YieldAt Fence.wide 0 P l #[E.enc x] W1 fun e W'=>e=.returned (.bool true)/\∃ o2,J (pre++[x]) o2 W'/\Kept (fun b=>¬ o1 b) W1 W'/\
    ∀ b,o2 b->o1 b∨(W1.heap.size<=b/\b<W'.heap.size)∨(E.blk x=some b/\W.heap.size<=b))->
  J [] o W->
  Calls P g #[s,.func (.yield l) #[] #[]] W fun e W'=>(∃ v,e=.returned v)/\∃ ys o',ys.map E.key=rows/\J ys o' W'/\Kept (fun b=>¬ o b) W W'/\
   ∀ b,o' b->o b∨(W.heap.size<=b/\b<W'.heap.size)
theorem wp_rangeB {P:Program} {g:Operand} {ps:Array Tmp} {assign body:Code} {Q:Exit->Act->World->Prop} {a:Act} {w:World}
  {gf:Nat} {s:Value} (hg:a.eval g=.func (.func gf) #[s] #[]) (eg:∀ args w,(callFunc gf args).run P w=.ok (.enter gf args) w)
  {rows:List κ} {w0:World} (hseq:SeqB E P gf s rows w0) (hb0:Below w0.heap.size w0 w) (hps:ps.size=1)
  (I:List α->(Nat->Prop)->World->Prop) (o:Nat->Prop) (ho:∀ b,o b->w0.heap.size<=b/\b<w.heap.size)
  (hI:∀ pre o1 A B,I pre o1 A->Kept (fun b=>o1 b∨b<w.heap.size) A B->I pre o1 B) (h0:I [] o w) (a₁:α->Act)
  (hassign:∀ (l:Nat) (x:α) (W:World) (K:Act->World->Prop),K (a₁ x) W->
   assign.wpIn (Fence.wide.inRound l) 0 P (Exit.then K (fun _ _ _=>False)) { tmps:=(ps.zip #[E.enc x]).foldl (fun t (p,v)=>t.setIfInBounds p v) a.tmps,defers:=[] } W)
  (hbody:∀ (l:Nat) (pre:List α) (x:α) (o1:Nat->Prop) (W:World),I pre o1 W->(pre++[x]).map E.key <+: rows->E.At x W->
   (∀ b,E.blk x=some b->¬ o1 b/\(b<w0.heap.size∨w.heap.size<=b))->w.heap.size+2<=W.heap.size->
   body.wpIn (Fence.wide.inRound l) 0 P (roundKeeps E I pre x w.heap.size o1 W) (a₁ x) W)
  (hdone:∀ (ys:List α) (o':Nat->Prop) (W:World),ys.map E.key=rows->I ys o' W->Kept (fun b=>¬ o b) w W->(∀ b,o' b->(o b∨(w.heap.size+2<=b/\b<W.heap.size)))->
   W.heap[w.heap.size]? = some (.deferred (some []))->Q .normal { a with defers:={ target:=.collected w.heap.size,args:=#[] } :: a.defers } W) :
  (Code.rangeFunc g ps assign body).wpIn Fence.wide 0 P Q a w:=by
 refine wpIn_rangeFunc ?_;intro fn hfn;obtain⟨rec,hrec⟩:∃ rec:LoopState->Option Code->Loop,rec=fun st pe=>{ state:=st,pending:=pe,fn,tmps:=a.tmps,params:=ps,assign,body,defers:=w.heap.size }:=⟨_,rfl⟩
 obtain⟨W1,hW1⟩:∃ W1,(w.alloc (.deferred (some []))).alloc (.loop (rec .ready none))=W1:=⟨_,rfl⟩
 have hs1:W1.heap.size=w.heap.size+2:=by rw[<- hW1]; simp
 have hL1:W1.heap[w.heap.size+1]? = some (.loop (rec .ready none)):=by
  rw[<- hW1]; have:=World.alloc_heap_new (w.alloc (.deferred (some []))) (.loop (rec .ready none)); rwa [World.size_alloc] at this
 have hD1:W1.heap[w.heap.size]? = some (.deferred (some [])):=by
  rw[<- hW1]; exact (Below.heap_alloc _ _ _ (by simp)).trans (World.alloc_heap_new w _)
 have hk1:∀ s,Kept s w W1:=fun s=>by rw[<- hW1]; exact (Kept.alloc _ _).trans (Kept.alloc _ _)
 have hbw:Below w0.heap.size w0 W1:=hb0.trans ((hk1 (fun _=>True)).below hb0.size (fun _ _=>trivial));refine⟨w.heap.size+1,[{ target:=.collected w.heap.size,args:=#[] }],W1,{ target:=.fn (.func gf) #[],args:=#[s,.func (.yield (w.heap.size+1)) #[] #[]] },W1,gf,
  #[s,.func (.yield (w.heap.size+1)) #[] #[]],W1,?_,?_,?_,?_,fun h=>by simp[Fence.wide] at h,?_⟩
 ·rw[<- hW1,hrec]; exact run_enterLoop_outer _ _ _ _ _
 ·simp only[resolve,hg];simp[go_sem]
 ·intro f' _; trivial
 ·simp[invoke,go_sem,eg]
 ·refine callsIn_wide.2 ((hseq (w.heap.size+1)
   (fun pre o' W=>∃ o1,I pre o1 W/\(∀ b,o' b↔o1 b∨b=w.heap.size∨b=w.heap.size+1)/\¬ o1 w.heap.size/\¬ o1 (w.heap.size+1)/\
    W.heap[w.heap.size+1]? = some (.loop (rec .ready none))/\W.heap[w.heap.size]? = some (.deferred (some [])))
   W1 (fun b=>o b∨b=w.heap.size∨b=w.heap.size+1) hbw ?_ ?_ ?_ ?_).mono ?_)
  ·rintro b (hb | rfl | rfl)
   ·exact⟨(ho b hb).1,by have:=(ho b hb).2; omega⟩
   ·exact⟨hb0.size,by omega⟩
   ·exact⟨by have:=hb0.size; omega,by omega⟩
  ·rintro pre o' A B ⟨o1,hi,ho',hn,hn',hl,hd⟩ hk;have hlA:=(Array.getElem?_eq_some_iff.1 hl).1;have hdA:=(Array.getElem?_eq_some_iff.1 hd).1;refine⟨o1,hI pre o1 A B hi (hk.mono fun b _ hb=>?_),ho',hn,hn',(hk.block _ hlA (.inl ((ho' _).2 (.inr (.inr rfl))))).trans hl,(hk.block _ hdA (.inl ((ho' _).2 (.inr (.inl rfl))))).trans hd⟩;rcases hb with hb | hb
   ·exact .inl ((ho' b).2 (.inl hb))
   ·exact .inr (by omega)
  ·rintro pre x o' W ⟨o1,hi,ho',hn,hn',hl,hd⟩ hpre hx hoff hsz;have hlt:w.heap.size+1<W.heap.size:=(Array.getElem?_eq_some_iff.1 hl).1;have hlt':w.heap.size<W.heap.size:=by omega
   have hy:=run_yield (P:=P) (args:=#[E.enc x]) hl (by rw[hrec]; exact hps.symm);rw[hrec] at hy;refine⟨fn,_,assign,body,hy,roundIn_of_wpIn hfn (hassign _ x W _ ⟨_,run_beginRound hl (by rw[hrec]),?_⟩)⟩;obtain⟨W2,hW2⟩:∃ W2,W.putObj (w.heap.size+1) (.loop { rec .ready none with state:=.busy })=W2:=⟨_,rfl⟩
   have hk2:Kept (fun b=>b≠w.heap.size+1) W W2:=by rw[<- hW2]; exact Kept.putObj _ _ (fun h=>h rfl)
   have hl2:W2.heap[w.heap.size+1]? = some (.loop { rec .ready none with state:=.busy }):=by rw[<- hW2]; exact World.putObj_heap_same hlt
   have hd2:W2.heap[w.heap.size]? = some (.deferred (some [])):=(hk2.block _ hlt' (by omega)).trans hd;have hs2:W2.heap.size=W.heap.size:=by rw[<- hW2]; simp
   have hI2:I pre o1 W2:=hI pre o1 W W2 hi (hk2.mono fun b _ hb=>by
    rcases hb with hb | hb
    ·intro e; exact hn' (e ▸ hb)
    ·omega)
   have hx2:E.At x W2:=E.keep hx hk2.size (fun b hb hbx=>hk2.block b hb (fun e=>(hoff b hbx).1 ((ho' b).2 (.inr (.inr e)))));rw[hW2];rw[hrec] at hl2;refine wpIn_mono (hbody _ pre x o1 W2 hI2 hpre hx2 (fun b hb=>⟨fun h=>(hoff b hb).1 ((ho' b).2 (.inl h)),(hoff b hb).2.imp id (by omega)⟩) (by omega)) ?_;rintro e a3 W3 hp
   cases e with
   | normal =>
    obtain⟨o2,hi3,hk3,hg3⟩:=hp;have hl3:W3.heap[w.heap.size+1]? = some (.loop { state:=.busy,pending:=none,fn,tmps:=a.tmps,params:=ps,assign,body,defers:=w.heap.size }):=(hk3.block _ (by omega) hn').trans hl2;have hlt3:=(Array.getElem?_eq_some_iff.1 hl3).1;have hd3:W3.heap[w.heap.size]? = some (.deferred (some [])):=(hk3.block _ (by omega) hn).trans hd2;have hno:∀ b,b=w.heap.size∨b=w.heap.size+1->¬ o2 b:=fun b hb h=>by
     rcases hg3 b h with h | h | ⟨h,_⟩
     ·rcases hb with rfl | rfl
      ·exact hn h
      ·exact hn' h
     ·omega
     ·exact (hoff b h).1 ((ho' b).2 (.inr hb))
    refine⟨_,_,run_endRound none hl3,rfl,fun b=>o2 b∨b=w.heap.size∨b=w.heap.size+1,⟨o2,hI _ o2 W3 _ hi3 (Kept.putObj _ _ ?_),fun b=>Iff.rfl,hno _ (.inl rfl),hno _ (.inr rfl),?_,?_⟩,?_,?_⟩
    ·rintro (h | h)
     ·exact hno _ (.inr rfl) h
     ·omega
    ·rw[World.putObj_heap_same hlt3,hrec]; rfl
    ·exact (World.putObj_heap_other (by omega)).trans hd3
    ·refine ((hk2.mono ?_).trans' (hk3.mono ?_) (fun _ _ h=>h)).trans (Kept.putObj _ _ ?_)
     ·intro b _ h e; exact h ((ho' b).2 (.inr (.inr e)))
     ·intro b _ h h'; exact h ((ho' b).2 (.inl h'))
     ·intro h; exact h ((ho' _).2 (.inr (.inr rfl)))
    ·rintro b (h | h)
     ·rcases hg3 b h with h | h | h
      ·exact .inl ((ho' b).2 (.inl h))
      ·exact .inr (.inl ⟨by omega,by rw[World.putObj_size]; omega⟩)
      ·exact .inr (.inr ⟨h.1,by
        rcases (hoff b h.1).2 with h' | h'
        ·have:=h.2; have:=hb0.size; omega
        ·exact h'⟩)
     ·exact .inl ((ho' b).2 (.inr h))
   | ret => exact hp.elim
   | exit id => exact hp.elim
   | goto t => exact hp.elim
   | panic ch => exact hp.elim
   | outgrown => exact hp.elim
  ·have hno:∀ b,b=w.heap.size∨b=w.heap.size+1->¬ o b:=fun b hb h=>by have:=(ho b h).2; omega
   exact⟨o,hI _ _ _ _ h0 (hk1 _),fun _=>Iff.rfl,hno _ (.inl rfl),hno _ (.inr rfl),hL1,hD1⟩
  ·rintro e W2 ⟨⟨v,rfl⟩,ys,o',hys,⟨o1,hi,ho',hn,hn',hl,hd⟩,hk,hg⟩;have hlt:=(Array.getElem?_eq_some_iff.1 hl).1;refine⟨none,_,by have:=run_endLoop (P:=P) hl (by rw[hrec]; simp); rw[hrec] at this; exact this,hdone ys o1 _ hys (hI _ _ _ _ hi (Kept.putObj _ _ ?_)) ?_ ?_ ((World.putObj_heap_other (by omega)).trans hd)⟩
   ·rintro (h | h)
    ·exact hn' h
    ·omega
   ·refine (Kept.trans' (hk1 _) (hk.mono fun b _ h=>h) ?_).trans (Kept.putObj _ _ ?_) |>.mono (s:=fun b=>¬ o b/\b<w.heap.size) ?_
    ·rintro b _ ⟨h,hb⟩ (h' | h' | h')
     ·exact h h'
     ·omega
     ·omega
    ·rintro⟨_,h⟩; omega
    ·exact fun b hb h=>⟨h,hb⟩
   ·intro b hb;rcases hg b ((ho' b).2 (.inl hb)) with (h | h | h) | h
    ·exact .inl h
    ·exact absurd (h ▸ hb) hn
    ·exact absurd (h ▸ hb) hn'
    ·exact .inr ⟨by omega,by rw[World.putObj_size]; exact h.2⟩
def numEl:El Nat Nat where
 enc k:=.int .i64 (k:Int)
 At _ _:=True
 blk _:=none
 key k:=k
 keep:=fun _ _ _=>trivial
 inn:=fun _ h=>by cases h
end Go.Scout
