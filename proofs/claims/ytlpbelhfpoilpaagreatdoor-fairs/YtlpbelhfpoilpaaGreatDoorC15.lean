import Derived.Deep.CutRange
import Derived.Laws.ResultCell
import Derived.Test.YtlpbelhfpoilpaaGreatDoorC05
import Derived.Test.YtlpbelhfpoilpaaGreatDoorC09
import Derived.Test.YtlpbelhfpoilpaaGreatDoorC13
import Derived.Test.YtlpbelhfpoilpaaGreatDoorC14
set_option linter.all false
set_option maxRecDepth 100000
set_option maxHeartbeats 16000000
namespace Go.Scout
open Go.RowKit
theorem ints_one (w:World) (x:Int) (t:TypeId):IntsAt (w.alloc (.cells #[.int .i64 x] t)) (some (aD w.heap.size 0)) [x]:=by
 refine⟨by simp,fun i hi=>⟨w.heap.size,0,rfl,?_⟩⟩;have h0:i=0:=by simpa using hi
 subst h0;have g:GB (w.alloc (.cells #[.int .i64 x] t)) w.heap.size t #[.int .i64 x]:=bQ3 _ _;exact g.cell 0
theorem four_blocks (w:World) (a b c d:Array Value) (ta tb tc td:TypeId) {w1:World} (h:w1=(((w.alloc (.cells a ta)).alloc (.cells b tb)).alloc (.cells c tc)).alloc (.cells d td)) :
  Below w.heap.size w w1/\GB w1 w.heap.size ta a/\GB w1 (w.heap.size+1) tb b/\GB w1 (w.heap.size+2) tc c/\GB w1 (w.heap.size+3) td d/\w1.heap.size=w.heap.size+4:=by
 subst h;refine⟨bQ1 (bQ2 _ _) (bQ1 (bQ2 _ _) (bQ1 (bQ2 _ _) (bQ2 _ _))),?_,?_,?_,?_,by simp⟩
 ·show _=_
  rw[heap_alloc (by simp; omega),heap_alloc (by simp; omega),heap_alloc (by simp),bQ3]
 ·show _=_
  have:=bQ3 (w.alloc (.cells a ta)) (.cells b tb);rw[World.size_alloc] at this;rw[heap_alloc (by simp),heap_alloc (by simp),this]
 ·show _=_
  have:=bQ3 ((w.alloc (.cells a ta)).alloc (.cells b tb)) (.cells c tc);rw[World.size_alloc,World.size_alloc] at this;rw[heap_alloc (by simp),this]
 ·show _=_
  have:=bQ3 (((w.alloc (.cells a ta)).alloc (.cells b tb)).alloc (.cells c tc)) (.cells d td);rw[World.size_alloc,World.size_alloc,World.size_alloc] at this;exact this
end Go.Scout
namespace Go.Proofs.YtlpbelhfpoilpaaGreatDoor
open Go.RowKit Go.Scout
theorem kind_any (b:Nat) (ao:Option Addr) (cap:Nat) (ts:List TableD) (q:QueryV) (n:NodeV) (l r:ViewV) (w:World) (ht:TreeC w b ao cap ts q) (hx:TablesAt w ao ts) (hk:Chk ts q) (hq:q.At w)
  (hcl:n.cl.At w) (hco:n.co.At w) (hls:l.s.At w) (hlo:l.o.At w) (hrs:r.s.At w) (hro:r.o.At w) (hlc:l.c.xs.length<=1000) (hkey:n.key∈n.cl.xs->0<=n.key/\n.key<q.wh.length) :
  Calls Tryz.prog 99 #[.pointer (some (aD b 0)),.agg n.cells,.agg l.cells,.agg r.cells] w fun e w'=>e=.returned (.bool (kindB ts q n l.d r.d))/\Below w.heap.size w w':=by
 have HSI:Hid (∀ k:Nat,k<q.wh.length->∀ x,Below w.heap.size w x->Calls Tryz.prog 161 #[.slice ao ts.length cap,.agg q.cells,.int .i64 k,.slice l.s.ad l.s.xs.length l.s.cap,.slice r.s.ad r.s.xs.length r.s.cap] x fun e w'=>
   e=.returned (.tuple #[.int .i64 (sidesN ts q.src.xs (q.wh.getD k lz).cs l.s.xs r.s.xs).1,.int .i64 (sidesN ts q.src.xs (q.wh.getD k lz).cs l.s.xs r.s.xs).2.1,.bool (sidesN ts q.src.xs (q.wh.getD k lz).cs l.s.xs r.s.xs).2.2])/\Below x.heap.size x w'):=fun k hk' x hb=>
  sides_any ao l.s.ad r.s.ad cap l.s.cap r.s.cap ts q k l.s.xs r.s.xs x (hx.below hb) hk.cat (hq.below hb) hk.five hk.src hk' (hk.cols k hk') (IntsAt.below hb hls) (IntsAt.below hb hrs)
 have HSO:Hid (∀ c,0<=c->c<widthN ts q.src.xs->∀ x,Below w.heap.size w x->Calls Tryz.prog 162 #[.slice ao ts.length cap,.agg q.cells,.int .i64 c] x fun e w'=>e=.returned (.int .i64 (sourceN ts q.src.xs c:Nat))/\Below x.heap.size x w'):=fun c h0 h1 x hb=>
  source_any ao cap ts q c x (hx.below hb) hk.cat (IntsAt.below hb hq.src) hk.five hk.src h0 h1
 have HWD:Hid (∀ x,Below w.heap.size w x->Calls Tryz.prog 89 #[.slice ao ts.length cap,.agg q.cells,.int .i64 q.src.xs.length] x fun e w'=>e=.returned (.int .i64 (widthN ts q.src.xs))/\Below x.heap.size x w'):=fun x hb=>
  width_any ao cap ts q x (hx.below hb) hk.cat (IntsAt.below hb hq.src) hk.five hk.src
 have HKB:Hid (kindB ts q n l.d r.d=if n.kind=2 then decide (0<n.cl.xs.length)
  else if n.kind=4∨n.kind=5 then
   decide (n.key∈n.cl.xs)&&(sidesN ts q.src.xs (q.wh.getD n.key.toNat lz).cs l.s.xs r.s.xs).2.2 &&
    (decide (n.kind=4) || (startsB l.o.xs [(sidesN ts q.src.xs (q.wh.getD n.key.toNat lz).cs l.s.xs r.s.xs).1]&&startsB r.o.xs [(sidesN ts q.src.xs (q.wh.getD n.key.toNat lz).cs l.s.xs r.s.xs).2.1]))
  else if n.kind=6 then allB n.co.xs (widthN ts q.src.xs)&&apartB n.co.xs&&n.co.xs.all fun c=>decide ((sourceN ts q.src.xs c:Int)∈l.s.xs)
  else if n.kind=7 then q.group&&(decide (l.s.xs.length=q.src.xs.length)&&decide (l.c.xs.length=q.wh.length))
  else if n.kind=8 then q.group&&(decide (l.s.xs.length=q.src.xs.length)&&decide (l.c.xs.length=q.wh.length))&&startsB l.o.xs q.keys.xs
  else if n.kind=9 then !q.group&&(decide (l.s.xs.length=q.src.xs.length)&&decide (l.c.xs.length=q.wh.length))
  else if n.kind=10 then decide (0<q.ord.xs.length)
  else true):=rfl
 obtain⟨KB,hKB⟩:∃ KB,KB=kindB ts q n l.d r.d:=⟨_,rfl⟩
 rw[<- hKB] at HKB ⊢;clear hKB;have h5:=hk.five;have h8:=hk.eight;have hkeys:q.keys.At w:=hq.keys;have hol:=hq.ord.1;have hwbd:=widthN_bd hk.cat hk.src q.src.xs.length (Nat.le_refl _);rw[List.take_length] at hwbd;obtain⟨t0,t1,t2,t3,t4,t5,t6,t7⟩:=ht;clear hx hk hq;obtain⟨kind,nl,nr,source,⟨cla,clc,clx⟩,key,⟨coa,coc,cox⟩⟩:=n;obtain⟨⟨lsa,lsc,lsx⟩,⟨lca,lcc,lcx⟩,⟨loa,loc,lox⟩,lout,lsz,lct⟩:=l;obtain⟨⟨rsa,rsc,rsx⟩,⟨rca,rcc,rcx⟩,⟨roa,roc,rox⟩,rout,rsz,rct⟩:=r;obtain⟨⟨sad,scap,xs⟩,wad,wcap,wh,group,⟨kad,kcap,kxs⟩,⟨uad,ucap,uxs⟩,⟨lad,lcap,lxs⟩,⟨oad,ocap,oxs⟩⟩:=q;unfold QueryV.cells NodeV.cells ViewV.cells IntsV.val IntsV.At at *;simp only at *;obtain⟨w1,hw1⟩:∃ x,x=(((w.alloc (.cells #[.int .i64 kind,.int .i64 nl,.int .i64 nr,.int .i64 source,.slice cla clx.length clc,.int .i64 key,.slice coa cox.length coc] 58)).alloc (.cells #[.slice lsa lsx.length lsc,.slice lca lcx.length lcc,.slice loa lox.length loc,.bool lout,.int .u64 (lsz:Int),.int .u64 (lct:Int)] 40)).alloc (.cells #[.slice rsa rsx.length rsc,.slice rca rcx.length rcc,.slice roa rox.length roc,.bool rout,.int .u64 (rsz:Int),.int .u64 (rct:Int)] 40)).alloc (.cells #[.slice sad xs.length scap,.slice wad wh.length wcap,.bool group,.slice kad kxs.length kcap,.slice uad uxs.length ucap,.slice lad lxs.length lcap,.slice oad oxs.length ocap] 26):=⟨_,rfl⟩
 obtain⟨hk1,gN,gL,gR,gQ,hs1⟩:=four_blocks w _ _ _ _ _ _ _ _ hw1;have hWC:=hw1.symm;have n0:w1.cell? (aD w.heap.size 0)=some (.int .i64 kind):=gN.cell 0;have n4:w1.cell? (aD w.heap.size 4)=some (.slice cla clx.length clc):=gN.cell 4;have n5:w1.cell? (aD w.heap.size 5)=some (.int .i64 key):=gN.cell 5;have n6:w1.cell? (aD w.heap.size 6)=some (.slice coa cox.length coc):=gN.cell 6;have l0:w1.cell? (aD (w.heap.size+1) 0)=some (.slice lsa lsx.length lsc):=gL.cell 0;have l1:w1.cell? (aD (w.heap.size+1) 1)=some (.slice lca lcx.length lcc):=gL.cell 1;have l2:w1.cell? (aD (w.heap.size+1) 2)=some (.slice loa lox.length loc):=gL.cell 2;have r0:w1.cell? (aD (w.heap.size+2) 0)=some (.slice rsa rsx.length rsc):=gR.cell 0;have r2:w1.cell? (aD (w.heap.size+2) 2)=some (.slice roa rox.length roc):=gR.cell 2;have q0:w1.cell? (aD (w.heap.size+3) 0)=some (.slice sad xs.length scap):=gQ.cell 0;have q1:w1.cell? (aD (w.heap.size+3) 1)=some (.slice wad wh.length wcap):=gQ.cell 1;have q2:w1.cell? (aD (w.heap.size+3) 2)=some (.bool group):=gQ.cell 2;have q3:w1.cell? (aD (w.heap.size+3) 3)=some (.slice kad kxs.length kcap):=gQ.cell 3;have q4:w1.cell? (aD (w.heap.size+3) 4)=some (.slice uad uxs.length ucap):=gQ.cell 4;have q5:w1.cell? (aD (w.heap.size+3) 5)=some (.slice lad lxs.length lcap):=gQ.cell 5;have q6:w1.cell? (aD (w.heap.size+3) 6)=some (.slice oad oxs.length ocap):=gQ.cell 6;clear gN gL gR gQ hw1 hs1;have T1:=fun (o1 o2 o3:Obj)=>cB (bQ1 (bQ2 w o1) (bQ1 (bQ2 _ o2) (bQ2 _ o3))) t1
 have T2:=fun (o1 o2 o3:Obj)=>cB (bQ1 (bQ2 w o1) (bQ1 (bQ2 _ o2) (bQ2 _ o3))) t2
 have T3:=fun (o1 o2 o3:Obj)=>cB (bQ1 (bQ2 w o1) (bQ1 (bQ2 _ o2) (bQ2 _ o3))) t3
 have T4:=fun (o1 o2 o3:Obj)=>cB (bQ1 (bQ2 w o1) (bQ1 (bQ2 _ o2) (bQ2 _ o3))) t4
 have T5:=fun (o1 o2 o3:Obj)=>cB (bQ1 (bQ2 w o1) (bQ1 (bQ2 _ o2) (bQ2 _ o3))) t5
 have T6:=fun (o1 o2 o3:Obj)=>cB (bQ1 (bQ2 w o1) (bQ1 (bQ2 _ o2) (bQ2 _ o3))) t6
 have T7:=fun (o1 o2 o3:Obj)=>cB (bQ1 (bQ2 w o1) (bQ1 (bQ2 _ o2) (bQ2 _ o3))) t7
 have u0:=cB hk1 t0;go_enter Tryz.func99,Tryz.ntmps99;go_upto_region 2 with fail;clear hWC t1 t2 t3 t4 t5 t6 t7 T1 T2 T3 T4 T5 T6 T7;obtain⟨whole,hwhole⟩:∃ x,x=(decide (lsx.length=xs.length)&&decide (lcx.length=wh.length)):=⟨_,rfl⟩
 rw[<- hwhole] at HKB;have HWH:Hid _:=hwhole;clear hwhole;have hls1:=hls.1;go_cut [10] from 27 to 42 (fun c wx=>c=.bool whole/\w1=wx)
 case first=>
  by_cases hS:lsx.length=xs.length
  ·have hSb:((lsx.length:Int)==xs.length)=true:=by simp[hS]
   by_cases hC:lcx.length=wh.length
   ·have hCb:((lcx.length:Int)==wh.length)=true:=by simp[hC]
    go_wp2_with fail;go_meet;exact⟨by rw[HWH.out,decide_eq_true hS,decide_eq_true hC]; rfl,rfl⟩
   ·have hCb:((lcx.length:Int)==wh.length)=false:=by simp; omega
    go_wp2_with fail;go_meet;exact⟨by rw[HWH.out,decide_eq_true hS,decide_eq_false hC]; rfl,rfl⟩
  ·have hSb:((lsx.length:Int)==xs.length)=false:=by simp; omega
   go_wp2_with fail;go_meet;exact⟨by rw[HWH.out,decide_eq_false hS]; rfl,rfl⟩
 case rest=>
 obtain⟨rfl,rfl⟩:=hcut;clear HWH;have kb:∀ j:Int,kind≠j->(kind==j)=false:=fun j h=>by simp[h]
 by_cases k2:kind=2
 ·subst k2;rw[if_pos rfl] at HKB;clear kb HSI HSO HWD;by_cases hc0:0<clx.length
  ·rw[decide_eq_true hc0] at HKB;go_wp2;go_ret;exact⟨ret_bool HKB.out.symm,hk1⟩
  ·rw[decide_eq_false hc0] at HKB;go_wp2;go_ret;exact⟨ret_bool HKB.out.symm,hk1⟩
 rw[if_neg k2] at HKB;have kb2:=kb 2 k2;by_cases k45:kind=4∨kind=5
 ·rw[if_pos k45] at HKB;have k4b:(kind==4)=decide (kind=4):=by by_cases h:kind=4 <;> simp[h]
  have hHA:=has_any cla clc clx key w1 (IntsAt.below hk1 hcl);have core:∀ (P:Prop),P->P:=fun _ h=>h
  clear HSO HWD;by_cases hin:key∈clx
  ·rw[decide_eq_true hin] at hHA HKB;obtain⟨kn,hkn⟩:∃ kn:Nat,key=(kn:Int):=⟨key.toNat,by have:=(hkey hin).1; omega⟩
   have hkl:kn<wh.length:=by have:=(hkey hin).2; omega
   subst hkn;rw[Int.toNat_natCast] at HKB;have HS2:Hid _:=HSI.out kn hkl;clear HSI hin hkey;generalize sidesN ts xs (wh.getD kn lz).cs lsx rsx=si at *;obtain⟨a,c,ok⟩:=si;simp only at HS2 HKB;have HSA:Hid (∀ x,Below w1.heap.size w1 x->Calls Tryz.prog 100 #[.slice loa lox.length loc,.slice (some (aD x.heap.size 0)) 1 1] (x.alloc (.cells #[.int .i64 a] 3)) fun e w'=>e=.returned (.bool (startsB lox [a]))/\Below x.heap.size x w'):=fun x hb=>
    (starts_any loa (some (aD x.heap.size 0)) loc 1 lox [a] _ (IntsAt.below (bQ1 hk1 (bQ1 hb (bQ2 _ _))) hlo) (ints_one x a _)).mono (fun _ _ h=>⟨h.1,bQ1 (bQ2 _ _) h.2⟩)
   have HSB:Hid (∀ x,Below w1.heap.size w1 x->Calls Tryz.prog 100 #[.slice roa rox.length roc,.slice (some (aD x.heap.size 0)) 1 1] (x.alloc (.cells #[.int .i64 c] 3)) fun e w'=>e=.returned (.bool (startsB rox [c]))/\Below x.heap.size x w'):=fun x hb=>
    (starts_any roa (some (aD x.heap.size 0)) roc 1 rox [c] _ (IntsAt.below (bQ1 hk1 (bQ1 hb (bQ2 _ _))) hro) (ints_one x c _)).mono (fun _ _ h=>⟨h.1,bQ1 (bQ2 _ _) h.2⟩)
   generalize startsB lox [a]=sx at *;generalize startsB rox [c]=sy at *;rcases k45 with k4 | k5
   ·subst k4;clear kb k2 kb2 k4b;go_wp2_with fail;refine hHA.mono ?_;clear hHA;rintro e w2 ⟨rfl,rfl⟩;go_wp2;refine wp_region_below (by kernel_rfl) (by kernel_rfl) ?_;go_big_quiet_want;refine⟨.pointer (some (aD b 0)),fun x hx=>?_,?_⟩
    ·go_simp
    simp only[pA,sB,sC];go_big_quiet_on;go_big_quiet_want;refine⟨.pointer (some (aD b 0)),fun x hx=>?_,?_⟩
    ·go_simp
    simp only[pA,sB,sC];go_big_quiet_on;go_big_quiet_want;refine⟨.pointer (some (aD b 0)),fun x hx=>?_,?_⟩
    ·go_simp
    simp only[pA,sB,sC];go_big_quiet_on;go_big_quiet_want;refine⟨.slice ao ts.length cap,fun x hx=>?_,?_⟩
    ·have e0:=cB hx u0;go_simp
    simp only[pA,sB,sC];go_big_quiet_on;go_big_quiet_want;refine⟨.agg #[.slice sad xs.length scap,.slice wad wh.length wcap,.bool group,.slice kad kxs.length kcap,.slice uad uxs.length ucap,.slice lad lxs.length lcap,.slice oad oxs.length ocap],fun x hx=>?_,?_⟩
    ·have e0:=cB (hx) q0;have e1:=cB (hx) q1;have e2:=cB (hx) q2;have e3:=cB (hx) q3;have e4:=cB (hx) q4;have e5:=cB (hx) q5;have e6:=cB (hx) q6;go_simp
    simp only[pA,sB,sC];go_big_quiet_on;go_big_quiet_want;refine⟨.pointer (some (aD w.heap.size 5)),fun x hx=>?_,?_⟩
    ·go_simp
    simp only[pA,sB,sC];go_big_quiet_on;go_big_quiet_want;refine⟨.int .i64 kn,fun x hx=>?_,?_⟩
    ·have e0:=cB hx n5;go_simp
    simp only[pA,sB,sC];go_big_quiet_on;go_big_quiet_want;refine⟨.pointer (some (aD (w.heap.size+1) 0)),fun x hx=>?_,?_⟩
    ·go_simp
    simp only[pA,sB,sC];go_big_quiet_on;go_big_quiet_want;refine⟨.slice lsa lsx.length lsc,fun x hx=>?_,?_⟩
    ·have e0:=cB hx l0;go_simp
    simp only[pA,sB,sC];go_big_quiet_on;go_big_quiet_want;refine⟨.pointer (some (aD (w.heap.size+2) 0)),fun x hx=>?_,?_⟩
    ·go_simp
    simp only[pA,sB,sC];go_big_quiet_on;go_big_quiet_want;refine⟨.slice rsa rsx.length rsc,fun x hx=>?_,?_⟩
    ·have e0:=cB hx r0;go_simp
    simp only[pA,sB,sC];go_big_quiet_on;go_big_quiet_want;refine⟨.tuple #[.int .i64 a,.int .i64 c,.bool ok],fun x hx=>?_,?_⟩
    ·have hC:=Calls.within hx (HS2.out x (bQ1 hk1 hx));go_simp
    simp only[pA,sB,sC];go_big_quiet_on;go_big_quiet_want;refine⟨.tuple #[.int .i64 a,.int .i64 c,.bool ok],fun x hx=>?_,?_⟩
    ·go_simp
    simp only[pA,sB,sC];go_big_quiet_on;go_big_quiet_want;refine⟨.int .i64 a,fun x hx=>?_,?_⟩
    ·go_simp
    simp only[pA,sB,sC];go_big_quiet_on;go_big_quiet_want;refine⟨.int .i64 c,fun x hx=>?_,?_⟩
    ·go_simp
    simp only[pA,sB,sC];go_big_quiet_on;go_big_quiet_want;refine⟨.bool ok,fun x hx=>?_,?_⟩
    ·go_simp
    simp only[pA,sB,sC];go_big_quiet_on;go_big_quiet_want;refine⟨.int .i64 a,fun x hx=>?_,?_⟩
    ·go_simp
    simp only[pA,sB,sC];go_big_quiet_on;go_big_quiet_want;refine⟨.int .i64 c,fun x hx=>?_,?_⟩
    ·go_simp
    simp only[pA,sB,sC];go_big_quiet_on;go_big_quiet_want;refine⟨.bool ok,fun x hx=>?_,?_⟩
    ·go_simp
    simp only[pA,sB,sC];go_big_quiet_on;refine wpQuiet_nil ?_;intro w3 hb3;have l2':=cB hb3 l2;have HA3:=HSA.out w3 hb3;go_wp2_with fail;refine (show Calls _ _ _ _ _ from HA3).mono ?_;clear HA3 l2';rintro e w4 ⟨rfl,hb4⟩;have kb4':=bQ1 hb3 hb4;have r2':=cB kb4' r2;have HB3:=HSB.out w4 kb4';clear hb3 hb4;go_wp2_with fail;refine (show Calls _ _ _ _ _ from HB3).mono ?_;clear HB3 r2';rintro e w5 ⟨rfl,hb5⟩;have kb5':=bQ1 kb4' hb5;have n0':=cB kb5' n0;have k5':=bQ1 hk1 kb5';clear hb5 kb4' HSA HSB HS2
    cases ok with
    | false =>
     go_wp2;go_ret;exact⟨ret_bool (by rw[HKB.out]; first | rfl | (cases sx <;> cases sy <;> rfl) | (cases sy <;> rfl)),k5'⟩
    | true =>
     cases sx with
     | false =>
      go_wp2;go_ret;exact⟨ret_bool (by rw[HKB.out]; first | rfl | (cases sx <;> cases sy <;> rfl) | (cases sy <;> rfl)),k5'⟩
     | true =>
      go_wp2;go_ret;exact⟨ret_bool (by rw[HKB.out]; first | rfl | (cases sx <;> cases sy <;> rfl) | (cases sy <;> rfl)),k5'⟩
   ·subst k5;clear kb k2 kb2 k4b;go_wp2_with fail;refine hHA.mono ?_;clear hHA;rintro e w2 ⟨rfl,rfl⟩;go_wp2;refine wp_region_below (by kernel_rfl) (by kernel_rfl) ?_;go_big_quiet_want;refine⟨.pointer (some (aD b 0)),fun x hx=>?_,?_⟩
    ·go_simp
    simp only[pA,sB,sC];go_big_quiet_on;go_big_quiet_want;refine⟨.pointer (some (aD b 0)),fun x hx=>?_,?_⟩
    ·go_simp
    simp only[pA,sB,sC];go_big_quiet_on;go_big_quiet_want;refine⟨.pointer (some (aD b 0)),fun x hx=>?_,?_⟩
    ·go_simp
    simp only[pA,sB,sC];go_big_quiet_on;go_big_quiet_want;refine⟨.slice ao ts.length cap,fun x hx=>?_,?_⟩
    ·have e0:=cB hx u0;go_simp
    simp only[pA,sB,sC];go_big_quiet_on;go_big_quiet_want;refine⟨.agg #[.slice sad xs.length scap,.slice wad wh.length wcap,.bool group,.slice kad kxs.length kcap,.slice uad uxs.length ucap,.slice lad lxs.length lcap,.slice oad oxs.length ocap],fun x hx=>?_,?_⟩
    ·have e0:=cB (hx) q0;have e1:=cB (hx) q1;have e2:=cB (hx) q2;have e3:=cB (hx) q3;have e4:=cB (hx) q4;have e5:=cB (hx) q5;have e6:=cB (hx) q6;go_simp
    simp only[pA,sB,sC];go_big_quiet_on;go_big_quiet_want;refine⟨.pointer (some (aD w.heap.size 5)),fun x hx=>?_,?_⟩
    ·go_simp
    simp only[pA,sB,sC];go_big_quiet_on;go_big_quiet_want;refine⟨.int .i64 kn,fun x hx=>?_,?_⟩
    ·have e0:=cB hx n5;go_simp
    simp only[pA,sB,sC];go_big_quiet_on;go_big_quiet_want;refine⟨.pointer (some (aD (w.heap.size+1) 0)),fun x hx=>?_,?_⟩
    ·go_simp
    simp only[pA,sB,sC];go_big_quiet_on;go_big_quiet_want;refine⟨.slice lsa lsx.length lsc,fun x hx=>?_,?_⟩
    ·have e0:=cB hx l0;go_simp
    simp only[pA,sB,sC];go_big_quiet_on;go_big_quiet_want;refine⟨.pointer (some (aD (w.heap.size+2) 0)),fun x hx=>?_,?_⟩
    ·go_simp
    simp only[pA,sB,sC];go_big_quiet_on;go_big_quiet_want;refine⟨.slice rsa rsx.length rsc,fun x hx=>?_,?_⟩
    ·have e0:=cB hx r0;go_simp
    simp only[pA,sB,sC];go_big_quiet_on;go_big_quiet_want;refine⟨.tuple #[.int .i64 a,.int .i64 c,.bool ok],fun x hx=>?_,?_⟩
    ·have hC:=Calls.within hx (HS2.out x (bQ1 hk1 hx));go_simp
    simp only[pA,sB,sC];go_big_quiet_on;go_big_quiet_want;refine⟨.tuple #[.int .i64 a,.int .i64 c,.bool ok],fun x hx=>?_,?_⟩
    ·go_simp
    simp only[pA,sB,sC];go_big_quiet_on;go_big_quiet_want;refine⟨.int .i64 a,fun x hx=>?_,?_⟩
    ·go_simp
    simp only[pA,sB,sC];go_big_quiet_on;go_big_quiet_want;refine⟨.int .i64 c,fun x hx=>?_,?_⟩
    ·go_simp
    simp only[pA,sB,sC];go_big_quiet_on;go_big_quiet_want;refine⟨.bool ok,fun x hx=>?_,?_⟩
    ·go_simp
    simp only[pA,sB,sC];go_big_quiet_on;go_big_quiet_want;refine⟨.int .i64 a,fun x hx=>?_,?_⟩
    ·go_simp
    simp only[pA,sB,sC];go_big_quiet_on;go_big_quiet_want;refine⟨.int .i64 c,fun x hx=>?_,?_⟩
    ·go_simp
    simp only[pA,sB,sC];go_big_quiet_on;go_big_quiet_want;refine⟨.bool ok,fun x hx=>?_,?_⟩
    ·go_simp
    simp only[pA,sB,sC];go_big_quiet_on;refine wpQuiet_nil ?_;intro w3 hb3;have l2':=cB hb3 l2;have HA3:=HSA.out w3 hb3;go_wp2_with fail;refine (show Calls _ _ _ _ _ from HA3).mono ?_;clear HA3 l2';rintro e w4 ⟨rfl,hb4⟩;have kb4':=bQ1 hb3 hb4;have r2':=cB kb4' r2;have HB3:=HSB.out w4 kb4';clear hb3 hb4;go_wp2_with fail;refine (show Calls _ _ _ _ _ from HB3).mono ?_;clear HB3 r2';rintro e w5 ⟨rfl,hb5⟩;have kb5':=bQ1 kb4' hb5;have n0':=cB kb5' n0;have k5':=bQ1 hk1 kb5';clear hb5 kb4' HSA HSB HS2
    cases ok with
    | false =>
     go_wp2;go_ret;exact⟨ret_bool (by rw[HKB.out]; first | rfl | (cases sx <;> cases sy <;> rfl) | (cases sy <;> rfl)),k5'⟩
    | true =>
     cases sx with
     | false =>
      go_wp2;go_ret;exact⟨ret_bool (by rw[HKB.out]; first | rfl | (cases sx <;> cases sy <;> rfl) | (cases sy <;> rfl)),k5'⟩
     | true =>
      go_wp2;go_ret;exact⟨ret_bool (by rw[HKB.out]; first | rfl | (cases sx <;> cases sy <;> rfl) | (cases sy <;> rfl)),k5'⟩
  ·rw[decide_eq_false hin,Bool.false_and,Bool.false_and] at HKB;rw[decide_eq_false hin] at hHA;clear HSI hkey;rcases k45 with k4 | k5
   ·subst k4;go_wp2_with fail;refine hHA.mono ?_;rintro e w2 ⟨rfl,rfl⟩;go_wp2;go_ret;exact⟨ret_bool HKB.out.symm,hk1⟩
   ·subst k5;go_wp2_with fail;refine hHA.mono ?_;rintro e w2 ⟨rfl,rfl⟩;go_wp2;go_ret;exact⟨ret_bool HKB.out.symm,hk1⟩
 rw[if_neg k45] at HKB;have kb4:=kb 4 (fun e=>k45 (.inl e));have kb5:=kb 5 (fun e=>k45 (.inr e));clear HSI hkey;by_cases k6:kind=6
 ·subst k6;rw[if_pos rfl] at HKB;clear kb;have HAL:Hid (∀ x,Below w.heap.size w x->Calls Tryz.prog 88 #[.slice coa cox.length coc,.int .i64 (widthN ts xs)] x fun e w'=>e=.returned (.bool (allB cox (widthN ts xs)))/\Below x.heap.size x w'):=fun x hb=>
   (all_any coa coc cox (widthN ts xs) x (IntsAt.below hb hco)).mono (fun _ _ h=>⟨h.1,by rw[h.2]; exact Below.refl _ _⟩)
  have HAP:Hid (∀ x,Below w.heap.size w x->Calls Tryz.prog 92 #[.slice coa cox.length coc] x fun e w'=>e=.returned (.bool (apartB cox))/\Below x.heap.size x w'):=fun x hb=>
   (apart_any coa coc cox x (IntsAt.below hb hco)).mono (fun _ _ h=>⟨h.1,by obtain⟨k,e⟩:=h.2; rw[e]; exact below_drewN (Below.refl _ _) _⟩)
  have HRG:Hid (allB cox (widthN ts xs)=true->∀ i,i<cox.length->0<=cox.getD i 0/\cox.getD i 0<widthN ts xs):=fun h i hi=>by
   have:=allB_at h hi;have e:cox.getD i 0=cox[i]:=by simp[List.getD,hi]
   rw[e]; exact this
  have hxl:(xs.length:Int)<=5:=by omega
  generalize widthN ts xs=W at *;obtain⟨A,hA⟩:∃ A,A=allB cox W:=⟨_,rfl⟩
  obtain⟨B,hB⟩:∃ B,B=apartB cox:=⟨_,rfl⟩
  rw[<- hA] at HAL HRG HKB;rw[<- hB] at HAP HKB;clear hA hB;have hcl1:=hco.1;go_wp2;refine wp_region_below (by kernel_rfl) (by kernel_rfl) ?_;go_big_quiet_want;refine⟨.pointer (some (aD w.heap.size 6)),fun x hx=>?_,?_⟩
  ·go_simp
  simp only[pA,sB,sC];go_big_quiet_on;go_big_quiet_want;refine⟨.slice coa cox.length coc,fun x hx=>?_,?_⟩
  ·have e0:=cB hx n6;go_simp
  simp only[pA,sB,sC];go_big_quiet_on;go_big_quiet_want;refine⟨.pointer (some (aD b 0)),fun x hx=>?_,?_⟩
  ·go_simp
  simp only[pA,sB,sC];go_big_quiet_on;go_big_quiet_want;refine⟨.pointer (some (aD b 0)),fun x hx=>?_,?_⟩
  ·go_simp
  simp only[pA,sB,sC];go_big_quiet_on;go_big_quiet_want;refine⟨.pointer (some (aD b 0)),fun x hx=>?_,?_⟩
  ·go_simp
  simp only[pA,sB,sC];go_big_quiet_on;go_big_quiet_want;refine⟨.slice ao ts.length cap,fun x hx=>?_,?_⟩
  ·have e0:=cB hx u0;go_simp
  simp only[pA,sB,sC];go_big_quiet_on;go_big_quiet_want;refine⟨.agg #[.slice sad xs.length scap,.slice wad wh.length wcap,.bool group,.slice kad kxs.length kcap,.slice uad uxs.length ucap,.slice lad lxs.length lcap,.slice oad oxs.length ocap],fun x hx=>?_,?_⟩
  ·have e0:=cB (hx) q0;have e1:=cB (hx) q1;have e2:=cB (hx) q2;have e3:=cB (hx) q3;have e4:=cB (hx) q4;have e5:=cB (hx) q5;have e6:=cB (hx) q6;go_simp
  simp only[pA,sB,sC];go_big_quiet_on;go_big_quiet_want;refine⟨.pointer (some (aD (w.heap.size+3) 0)),fun x hx=>?_,?_⟩
  ·go_simp
  simp only[pA,sB,sC];go_big_quiet_on;go_big_quiet_want;refine⟨.slice sad xs.length scap,fun x hx=>?_,?_⟩
  ·have e0:=cB hx q0;go_simp
  simp only[pA,sB,sC];go_big_quiet_on;go_big_quiet_want;refine⟨.int .i64 xs.length,fun x hx=>?_,?_⟩
  ·go_simp
  simp only[pA,sB,sC];go_big_quiet_on;go_big_quiet_want;refine⟨.int .i64 W,fun x hx=>?_,?_⟩
  ·have hC:=Calls.within hx (HWD.out x (bQ1 hk1 hx));go_simp
  simp only[pA,sB,sC];go_big_quiet_on;go_big_quiet_want;refine⟨.bool A,fun x hx=>?_,?_⟩
  ·have hC:=Calls.within hx (HAL.out x (bQ1 hk1 hx));go_simp
  simp only[pA,sB,sC];go_big_quiet_on;go_big_quiet_want;refine⟨.bool A,fun x hx=>?_,?_⟩
  ·go_simp
  simp only[pA,sB,sC];go_big_quiet_on;refine wpQuiet_nil ?_;intro w2 hb2;have k2':=bQ1 hk1 hb2;have n6':=cB hb2 n6;have HP2:=HAP.out w2 k2';clear HAL HWD HAP;go_wp2_with fail;refine (show Calls _ _ _ _ _ from HP2).mono ?_;clear HP2 n6';rintro e w3 ⟨rfl,hb3⟩;have kb3:=bQ1 hb2 hb3;have k3:=bQ1 k2' hb3;clear hb2 hb3 k2';have n6':=cB kb3 n6
  cases A with
  | false =>
   go_wp2;go_ret;exact⟨ret_bool (by rw[HKB.out]; rfl),k3⟩
  | true =>
   cases B with
   | false =>
    go_wp2;go_ret;exact⟨ret_bool (by rw[HKB.out]; rfl),k3⟩
   | true =>
    have HR2:Hid _:=HRG.out rfl;have HK2:Hid (KB=cox.all fun c=>decide ((sourceN ts xs c:Int)∈lsx)):=by
     show _=_
     rw[HKB.out]; rfl
    clear HRG HKB;go_wp2;clear n6';go_loopw [19] (fun iv wr=>∃ i:Nat,i<=cox.length/\iv=.int .i64 i/\Hid (((cox.take i).all fun c=>decide ((sourceN ts xs c:Int)∈lsx))=true)/\Below w1.heap.size w1 wr) (fun iv _=>cox.length-(intOf iv).toNat)
    case atStart=>exact⟨0,Nat.zero_le _,rfl,rfl,kb3⟩
    case round=>
     obtain⟨i,hi,rfl,HA,hbr⟩:=hrel;have n6':=cB hbr n6;by_cases hlt:i<cox.length
     ·obtain⟨lb,lo,rfl,hcx⟩:=IntsAt.get hco hlt;have kr:=bQ1 hk1 hbr;have hci:=cB kr (hcx i hlt);clear hcx;have hrg:=HR2.out i hlt;have HC2:Hid _:=HSO.out (cox.getD i 0) hrg.1 hrg.2;have HT:Hid _:=all_take_succ (p:=fun c=>decide ((sourceN ts xs c:Int)∈lsx)) hlt HA.out;have HF:Hid _:=all_bad_at (p:=fun c=>decide ((sourceN ts xs c:Int)∈lsx)) hlt;clear HA hrg;generalize cox.getD i 0=cv at *;obtain⟨S,hS⟩:∃ S,S=sourceN ts xs cv:=⟨_,rfl⟩
      simp only[<- hS] at HC2 HT HF;clear hS;go_wp2;refine wp_region_below (by kernel_rfl) (by kernel_rfl) ?_;go_big_quiet_want;refine⟨.pointer (some (aD b 0)),fun x hx=>?_,?_⟩
      ·go_simp
      simp only[pA,sB,sC];go_big_quiet_on;go_big_quiet_want;refine⟨.pointer (some (aD b 0)),fun x hx=>?_,?_⟩
      ·go_simp
      simp only[pA,sB,sC];go_big_quiet_on;go_big_quiet_want;refine⟨.pointer (some (aD b 0)),fun x hx=>?_,?_⟩
      ·go_simp
      simp only[pA,sB,sC];go_big_quiet_on;go_big_quiet_want;refine⟨.slice ao ts.length cap,fun x hx=>?_,?_⟩
      ·have e0:=cB (bQ1 hbr hx) u0;go_simp
      simp only[pA,sB,sC];go_big_quiet_on;go_big_quiet_want;refine⟨.agg #[.slice sad xs.length scap,.slice wad wh.length wcap,.bool group,.slice kad kxs.length kcap,.slice uad uxs.length ucap,.slice lad lxs.length lcap,.slice oad oxs.length ocap],fun x hx=>?_,?_⟩
      ·have e0:=cB (bQ1 hbr hx) q0;have e1:=cB (bQ1 hbr hx) q1;have e2:=cB (bQ1 hbr hx) q2;have e3:=cB (bQ1 hbr hx) q3;have e4:=cB (bQ1 hbr hx) q4;have e5:=cB (bQ1 hbr hx) q5;have e6:=cB (bQ1 hbr hx) q6;go_simp
      simp only[pA,sB,sC];go_big_quiet_on;go_big_quiet_want;refine⟨.pointer (some (aD w.heap.size 6)),fun x hx=>?_,?_⟩
      ·go_simp
      simp only[pA,sB,sC];go_big_quiet_on;go_big_quiet_want;refine⟨.slice (some (aD lb lo)) cox.length coc,fun x hx=>?_,?_⟩
      ·have e0:=cB hx n6';go_simp
      simp only[pA,sB,sC];go_big_quiet_on;go_big_quiet_want;refine⟨.int .i64 i,fun x hx=>?_,?_⟩
      ·go_simp
      simp only[pA,sB,sC];go_big_quiet_on;go_big_quiet_want;refine⟨.pointer (some (aD lb (lo+i))),fun x hx=>?_,?_⟩
      ·go_simp
      simp only[pA,sB,sC];go_big_quiet_on;go_big_quiet_want;refine⟨.int .i64 cv,fun x hx=>?_,?_⟩
      ·have e0:=cB hx hci;go_simp
      simp only[pA,sB,sC];go_big_quiet_on;go_big_quiet_want;refine⟨.int .i64 S,fun x hx=>?_,?_⟩
      ·have hC:=Calls.within hx (HC2.out x (bQ1 kr hx));go_simp
      simp only[pA,sB,sC];go_big_quiet_on;go_big_quiet_want;refine⟨.int .i64 S,fun x hx=>?_,?_⟩
      ·go_simp
      simp only[pA,sB,sC];go_big_quiet_on;refine wpQuiet_nil ?_;intro w4 hb4;have kb4:=bQ1 hbr hb4;have k4:=bQ1 kr hb4;have l0':=cB kb4 l0;clear hb4 HC2 hci n6';have hHA:=has_any lsa lsc lsx (S:Int) w4 (IntsAt.below k4 hls);go_wp2_with fail;refine hHA.mono ?_;clear hHA l0';rintro e w5 ⟨rfl,rfl⟩;by_cases hin:(S:Int)∈lsx
      ·rw[decide_eq_true hin];go_wp2;go_roundw
       case rel=>exact⟨i+1,by omega,by go_num,HT.out (decide_eq_true hin),kb4⟩
       case measure=>simp[intOf]; omega
      ·rw[decide_eq_false hin];go_wp2;go_ret;exact⟨ret_bool (by rw[HK2.out]; exact (HF.out (decide_eq_false hin)).symm),k4⟩
     ·have e:i=cox.length:=by omega
      have HA2:=HA.out;rw[e,List.take_length] at HA2;have HA3:Hid _:=HA2;clear HA HA2 e;go_wp2;go_ret;exact⟨ret_bool (by rw[HK2.out]; exact HA3.out.symm),bQ1 hk1 hbr⟩
 rw[if_neg k6] at HKB;have kb6:=kb 6 k6;clear HSO HWD;by_cases k7:kind=7
 ·subst k7;rw[if_pos rfl] at HKB;clear kb
  cases group with
  | true =>
   go_wp2;go_ret;exact⟨ret_bool (by rw[HKB.out]; rfl),hk1⟩
  | false =>
   go_wp2;go_ret;exact⟨ret_bool (by rw[HKB.out]; rfl),hk1⟩
 rw[if_neg k7] at HKB;have kb7:=kb 7 k7;by_cases k8:kind=8
 ·subst k8;rw[if_pos rfl] at HKB;clear kb;have hST:=starts_any loa kad loc kcap lox kxs w1 (IntsAt.below hk1 hlo) (IntsAt.below hk1 hkeys);generalize startsB lox kxs=sx at *;go_wp2_with fail;refine hST.mono ?_;clear hST;rintro e w2 ⟨rfl,hb2⟩;have k2':=bQ1 hk1 hb2;have q2':=cB hb2 q2;clear hb2
  cases group with
  | true =>
   cases whole with
   | true =>
    go_wp2;go_ret;exact⟨ret_bool (by rw[HKB.out]; rfl),k2'⟩
   | false =>
    go_wp2;go_ret;exact⟨ret_bool (by rw[HKB.out]; rfl),k2'⟩
  | false =>
   go_wp2;go_ret;exact⟨ret_bool (by rw[HKB.out]; rfl),k2'⟩
 rw[if_neg k8] at HKB;have kb8:=kb 8 k8;by_cases k9:kind=9
 ·subst k9;rw[if_pos rfl] at HKB;clear kb
  cases group with
  | true =>
   go_wp2;go_ret;exact⟨ret_bool (by rw[HKB.out]; rfl),hk1⟩
  | false =>
   go_wp2;go_ret;exact⟨ret_bool (by rw[HKB.out]; rfl),hk1⟩
 rw[if_neg k9] at HKB;have kb9:=kb 9 k9;by_cases k10:kind=10
 ·subst k10;rw[if_pos rfl] at HKB;clear kb;by_cases hc0:0<oxs.length
  ·rw[decide_eq_true hc0] at HKB;go_wp2;go_ret;exact⟨ret_bool HKB.out.symm,hk1⟩
  ·rw[decide_eq_false hc0] at HKB;go_wp2;go_ret;exact⟨ret_bool HKB.out.symm,hk1⟩
 rw[if_neg k10] at HKB;have kb10:=kb 10 k10;clear kb;go_wp2;go_ret;exact⟨ret_bool HKB.out.symm,hk1⟩
end Go.Proofs.YtlpbelhfpoilpaaGreatDoor
namespace Go.Scout
open Go.RowKit
theorem sizeN_le (ts:List TableD) (q:QueryV) (s c:List Int):sizeN ts q s c<=topN:=by
 unfold sizeN;split
 ·exact Nat.zero_le _
 ·have h1:lessN ts q c ((s.map (rowsN ts q.src.xs)).foldl timesN 1)<=(s.map (rowsN ts q.src.xs)).foldl timesN 1:=lessTo_le ts q c _ q.wh.length;have h2:=timesN_fold_le (s.map (rowsN ts q.src.xs)) 1 (by unfold topN; omega);have h3:(1:Nat)<=topN:=by unfold topN; omega
  omega
theorem costN_le (kind:Int) (s:Nat) (l r:ViewD):costN kind s l r<=topN:=by
 unfold costN
 repeat' split
 all_goals exact plusN_le _ _
structure VOk (q:QueryV) (v:ViewD):Prop where
 ssmall:SmallL q.src.xs.length v.sources
 snodup:v.sources.Nodup
 csmall:SmallL q.wh.length v.clauses
 cnodup:v.clauses.Nodup
 size:v.size<=topN
 cost:v.cost<=topN
theorem VOk.zero (q:QueryV):VOk q vz:=⟨(fun x hx=>by cases hx),List.nodup_nil,(fun x hx=>by cases hx),List.nodup_nil,Nat.zero_le _,Nat.zero_le _⟩
theorem VOk.node {ts:List TableD} {q:QueryV} {n:NodeV} {l r v:ViewD} (hl:VOk q l) (hr:VOk q r) (h:nodeV ts q n l r=some v):VOk q v:=by
 rw[nodeV_eq] at h;split at h
 ·rename_i hok
  injection h with h;subst h;unfold nodeOk at hok;simp only[Bool.and_eq_true] at hok;exact⟨hl.ssmall.with hr.ssmall,withN_nodup hl.snodup,(hl.csmall.with hr.csmall).with (listed_small hok.1.2),withN_nodup (withN_nodup hl.cnodup),sizeN_le _ _ _ _,costN_le _ _ _ _⟩
 ·cases h
theorem VOk.slen {q:QueryV} {v:ViewD} (h:VOk q v):v.sources.length<=q.src.xs.length:=small_len h.ssmall h.snodup
theorem VOk.clen {q:QueryV} {v:ViewD} (h:VOk q v):v.clauses.length<=q.wh.length:=small_len h.csmall h.cnodup
structure DataP (w0:World) (ao po:Option Addr) (ts:List TableD) (q:QueryV) (pl:List NodeV):Prop where
 cat:TablesAt w0 ao ts
 query:q.At w0
 plan:NodesAt w0 po pl
 chk:Chk ts q
 len:pl.length<=64
structure TreeSt (W:World) (b base:Nat) (tT tI:TypeId) (ao po:Option Addr) (cap pcap:Nat) (ts:List TableD) (q:QueryV) (pl:List NodeV) (seen:List Nat) (sv:Value):Prop where
 g:GB W b tT #[.slice ao ts.length cap,q.src.val,.slice q.wad q.wh.length q.wcap,.bool q.group,q.keys.val,q.sums.val,q.sel.val,q.ord.val,.slice po pl.length pcap,sv]
 own:W.ownsRow base tI 1 sv seen.length ((seen.map fun (i:Nat)=>(i:Int)).map (Value.int .i64))
 lo:base<=b
variable {W W':World} {b base:Nat} {tT tI:TypeId} {ao po:Option Addr} {cap pcap:Nat} {ts:List TableD} {q:QueryV} {pl:List NodeV} {seen:List Nat} {sv sv':Value}
theorem TreeSt.below (h:TreeSt W b base tT tI ao po cap pcap ts q pl seen sv) (hb:Below W.heap.size W W'):TreeSt W' b base tT tI ao po cap pcap ts q pl seen sv:=
 ⟨h.g.of (hb.block _ h.g.lt),own_below h.own hb,h.lo⟩
theorem TreeSt.tree (h:TreeSt W b base tT tI ao po cap pcap ts q pl seen sv):TreeC W b ao cap ts q:=
 ⟨h.g.cell 0,h.g.cell 1,h.g.cell 2,h.g.cell 3,h.g.cell 4,h.g.cell 5,h.g.cell 6,h.g.cell 7⟩
theorem TreeSt.ne (h:TreeSt W b base tT tI ao po cap pcap ts q pl seen sv) (ht:tI≠tT):sv.ownBlock≠some b:=fun e=>by
 obtain⟨c,hc⟩:=own_cells h.own e;have hg:=h.g;unfold GB at hg;rw[hc] at hg;injection hg with hg;injection hg with _ hg;exact ht hg
def SvNext (W:World) (sv sv':Value):Prop:=∀ g,sv'.ownBlock=some g->sv.ownBlock=some g∨W.heap.size<=g
theorem SvNext.refl (W:World) (sv:Value):SvNext W sv sv:=fun _ h=>.inl h
theorem SvNext.trans {sv'':Value} (h:SvNext W sv sv') (h':SvNext W' sv' sv'') (hs:W.heap.size<=W'.heap.size):SvNext W sv sv'':=fun g e=>by
 rcases h' g e with h1 | h1
 ·exact h g h1
 ·exact .inr (by omega)
def Rest (b:Nat) (sv:Value) (x:Nat):Prop:=x≠b/\sv.ownBlock≠some x
theorem Rest.next {x:Nat} (h:Rest b sv x) (hn:SvNext W sv sv') (hx:x<W.heap.size):Rest b sv' x:=⟨h.1,fun e=>by
 rcases hn x e with h1 | h1
 ·exact h.2 h1
 ·omega⟩
structure Safe (W:World) (b:Nat) (sv:Value) (x:IntsV):Prop where
 ints:IntsAt W x.ad x.xs
 nil:x.ad=none->x.cap=0
 rest:∀ a,x.ad=some a->x.xs≠[]->a.block<W.heap.size/\Rest b sv a.block
theorem Safe.zero (W:World) (b:Nat) (sv:Value):Safe W b sv ⟨none,0,[]⟩:=⟨⟨by simp,fun i hi=>absurd hi (by simp)⟩,fun _=>rfl,fun a h=>by cases h⟩
theorem Safe.next {x:IntsV} (h:Safe W b sv x) (hk:Kept (Rest b sv) W W') (hn:SvNext W sv sv'):Safe W' b sv' x:=by
 refine⟨⟨h.ints.1,fun i hi=>?_⟩,h.nil,fun a ha hne=>?_⟩
 ·obtain⟨g,off,e,hc⟩:=h.ints.2 i hi;have hr:=h.rest _ e (fun e=>by rw[e] at hi; simp at hi);refine⟨g,off,e,?_⟩;have hb:=hk.block g hr.1 hr.2;simp only[World.cell?] at hc ⊢;rw[hb];exact hc
 ·obtain⟨h1,h2⟩:=h.rest a ha hne;exact⟨by have:=hk.size; omega,h2.next hn h1⟩
theorem Safe.below {x:IntsV} (h:Safe W b sv x) (hb:Below W.heap.size W W'):Safe W' b sv x:=
 h.next (Kept.of_below hb (fun _ hl _=>hl)) (SvNext.refl _ _)
theorem TreeSt.push (h:TreeSt W b base tT tI ao po cap pcap ts q pl seen sv) (ht:tI≠tT) {i:Nat} {X:World} (hb:Below W.heap.size W X) {w5:World} (hk5:Kept (fun x=>sv.ownBlock≠some x) X w5) (ho5:w5.ownsRow base tI 1 sv' ((seen.map fun (i:Nat)=>(i:Int))++[(i:Int)]).length (((seen.map fun (i:Nat)=>(i:Int))++[(i:Int)]).map (Value.int .i64)))
  (hat:sv'.ownBlock=sv.ownBlock∨sv'.ownBlock=some (X.heap.size+1)) {Y:World} (hY:Y=w5.setCell (aD b 9) sv') :
  TreeSt Y b base tT tI ao po cap pcap ts q pl (seen++[i]) sv'/\SvNext W sv sv'/\Kept (Rest b sv) W Y/\(∀ x,W.heap.size<=x->x<X.heap.size->Y.heap[x]? = X.heap[x]?):=by
 have hne:=h.ne ht;have hX:=h.below hb;have hg5:GB w5 b tT _:=hX.g.of (hk5.block b hX.g.lt hne);have hbs:=hb.size;have hown:∀ x,W.heap.size<=x->sv.ownBlock≠some x:=fun x hx e=>by
  have:=(ownsRow_lt h.own e).2;omega
 have hYne:∀ x,x≠b->Y.heap[x]? = w5.heap[x]?:=fun x hx=>by rw[hY]; exact heap_setCell hx
 have hbl:=h.g.lt;refine⟨⟨?_,?_,h.lo⟩,?_,?_,?_⟩
 ·rw[hY]; exact hg5.set 9 sv'
 ·have hlen:((seen.map fun (i:Nat)=>(i:Int))++[(i:Int)]).length=(seen++[i]).length:=by simp
  have hmap:((seen.map fun (i:Nat)=>(i:Int))++[(i:Int)])=((seen++[i]).map fun (i:Nat)=>(i:Int)):=by simp
  rw[hlen,hmap] at ho5;have hb':sv'.ownBlock≠some b:=fun e=>by
   rcases hat with h1 | h1
   ·rw[h1] at e; exact hne e
   ·rw[h1] at e;injection e with e;omega
  rw[hY];rcases ho5.2 with⟨h1,h2⟩ | ⟨g,c,cur,h1,h2,h3,h4⟩
  ·exact⟨ho5.1,.inl ⟨h1,h2⟩⟩
  ·refine⟨ho5.1,.inr ⟨g,c,cur,h1,h2,?_,h4⟩⟩;have hgb:g≠b:=fun e=>hb' (by rw[h1,e]; rfl)
   rw[heap_setCell hgb];exact h3
 ·intro g e;rcases hat with h1 | h1
  ·rw[h1] at e; exact .inl e
  ·rw[h1] at e;injection e with e;exact .inr (by omega)
 ·refine⟨?_,?_,?_,?_,fun x hx hr=>?_⟩
  ·rw[hY]; exact hk5.os.trans hb.os
  ·rw[hY]; exact hk5.tape.trans hb.tape
  ·rw[hY]; exact hk5.output.trans hb.output
  ·have h1:Y.heap.size=w5.heap.size:=by rw[hY]; exact World.size_setCell _ _ _
   have:=hk5.size;omega
  ·rw[hYne x hr.1,hk5.block x (by omega) hr.2,hb.block x hx]
 ·intro x h1 h2;rw[hYne x (by omega),hk5.block x h2 (hown x h1)]
theorem VOk.read {ts:List TableD} {q:QueryV} {plan:List NodeV}:∀ (f i:Nat) (seen:List Nat) (v:ViewD) (s:List Nat),readF ts q plan f i seen=some (v,s)->VOk q v:=by
 intro f
 induction f with
 | zero => intro i seen v s h; cases h
 | succ f ih =>
  intro i seen v s h;unfold readF at h;simp only at h;generalize plan.getD i nz=n at h;split at h
  ·cases h
  split at h
  ·split at h
   ·cases h
   ·rename_i hs
    injection h with h;injection h with h _;subst h;refine⟨fun x hx=>?_,by simp,(fun x hx=>by cases hx),List.nodup_nil,sizeN_le _ _ _ _,costN_le 1 (sizeN ts q [n.source] []) vz vz⟩;have:x=n.source:=by simpa using hx
    omega
  split at h
  ·cases h
  split at h
  ·cases h
  rename_i l s1 hl
  have hvl:=ih _ _ _ _ hl;split at h
  ·split at h
   ·cases h
   split at h
   ·cases h
   rename_i r s2 hr
   have hvr:=ih _ _ _ _ hr
   cases hn:nodeV ts q n l r with
   | none => rw[hn] at h; cases h
   | some v0 =>
    rw[hn] at h;simp only[Option.map_some] at h;injection h with h;injection h with h _;subst h;exact hvl.node hvr hn
  ·cases hn:nodeV ts q n l vz with
   | none => rw[hn] at h; cases h
   | some v0 =>
    rw[hn] at h;simp only[Option.map_some] at h;injection h with h;injection h with h _;subst h;exact hvl.node (VOk.zero q) hn
def New (w0 W:World) (x:IntsV):Prop:=∀ a,x.ad=some a->x.xs≠[]->a.block<w0.heap.size∨W.heap.size<=a.block
theorem New.zero (w0 W:World):New w0 W ⟨none,0,[]⟩:=fun a h=>by cases h
theorem New.up {w0 W X:World} {x:IntsV} (h:New w0 X x) (hs:W.heap.size<=X.heap.size):New w0 W x:=fun a ha hne=>by
 rcases h a ha hne with h1 | h1
 ·exact .inl h1
 ·exact .inr (by omega)
def VPost (w0 W:World) (b:Nat) (tT tI:TypeId) (ao po:Option Addr) (cap pcap:Nat) (ts:List TableD) (q:QueryV) (pl:List NodeV) (sv:Value) (o:Option (ViewD × List Nat)) (e:Ending) (W':World):Prop:=
 Kept (Rest b sv) W W'/\match o with
  | none => ∃ v:ViewV,e=.returned (.tuple #[.agg v.cells,.bool false])
  | some (vd,s') => ∃ v:ViewV,e=.returned (.tuple #[.agg v.cells,.bool true])/\v.d=vd/\
    ∃ sv',TreeSt W' b w0.heap.size tT tI ao po cap pcap ts q pl s' sv'/\SvNext W sv sv'/\(Safe W' b sv' v.s/\New w0 W v.s)/\(Safe W' b sv' v.c/\New w0 W v.c)/\(Safe W' b sv' v.o/\New w0 W v.o)
theorem VPost.of {w0 W X:World} {b:Nat} {tT tI:TypeId} {ao po:Option Addr} {cap pcap:Nat} {ts:List TableD} {q:QueryV} {pl:List NodeV} {sv:Value} {o:Option (ViewD × List Nat)} {e:Ending} {W':World} (hb:Below W.heap.size W X)
  (h:VPost w0 X b tT tI ao po cap pcap ts q pl sv o e W'):VPost w0 W b tT tI ao po cap pcap ts q pl sv o e W':=by
 have h0:Kept (Rest b sv) W X:=Kept.of_below hb (fun _ hl _=>hl);refine⟨h0.trans h.1,?_⟩
 cases o with
 | none => exact h.2
 | some x =>
  obtain⟨vd,s'⟩:=x;obtain⟨v,e1,e2,sv',h1,h2,h3,h4,h5⟩:=h.2;refine⟨v,e1,e2,sv',h1,?_,⟨h3.1,h3.2.up hb.size⟩,⟨h4.1,h4.2.up hb.size⟩,⟨h5.1,h5.2.up hb.size⟩⟩;intro g e;rcases h2 g e with h | h
  ·exact .inl h
  ·exact .inr (by have:=hb.size; omega)
theorem TreeSt.old {w0 W:World} {b:Nat} {tT tI:TypeId} {ao po:Option Addr} {cap pcap:Nat} {ts:List TableD} {q:QueryV} {pl:List NodeV} {seen:List Nat} {sv:Value} (h:TreeSt W b w0.heap.size tT tI ao po cap pcap ts q pl seen sv):∀ x,x<w0.heap.size->Rest b sv x:=fun x hx=>
 ⟨by have:=h.lo; omega,fun e=>by have:=(ownsRow_lt h.own e).1; omega⟩
def World.put6 (W:World) (B:Nat) (v:ViewV):World:=
 (((((W.setCell (aD B 0) v.s.val).setCell (aD B 1) v.c.val).setCell (aD B 2) v.o.val).setCell (aD B 3) (.bool v.out)).setCell (aD B 4) (.int .u64 (v.size:Int))).setCell (aD B 5) (.int .u64 (v.cost:Int))
theorem World.put6_gb {W:World} {B:Nat} {t:TypeId} {a0 a1 a2 a3 a4 a5:Value} (h:GB W B t #[a0,a1,a2,a3,a4,a5]) (v:ViewV):GB (World.put6 W B v) B t v.cells:=
 (((((h.set 0 v.s.val).set 1 v.c.val).set 2 v.o.val).set 3 (.bool v.out)).set 4 (.int .u64 (v.size:Int))).set 5 (.int .u64 (v.cost:Int))
theorem World.put6_kept (W:World) (B:Nat) (v:ViewV):Kept (fun x=>x≠B) W (World.put6 W B v):=by
 unfold World.put6;exact (((((Kept.setCell _ (aD B 0) _ (fun h=>h rfl)).trans (Kept.setCell _ (aD B 1) _ (fun h=>h rfl))).trans (Kept.setCell _ (aD B 2) _ (fun h=>h rfl))).trans (Kept.setCell _ (aD B 3) _ (fun h=>h rfl))).trans (Kept.setCell _ (aD B 4) _ (fun h=>h rfl))).trans (Kept.setCell _ (aD B 5) _ (fun h=>h rfl))
theorem Safe.but {W W':World} {b:Nat} {sv:Value} {x:IntsV} (h:Safe W b sv x) {R:Nat} (hR:∀ a,x.ad=some a->x.xs≠[]->a.block≠R) (hk:Kept (fun y=>y≠R) W W'):Safe W' b sv x:=by
 refine⟨⟨h.ints.1,fun i hi=>?_⟩,h.nil,fun a ha hne=>?_⟩
 ·obtain⟨g,off,e,hc⟩:=h.ints.2 i hi;have hne:x.xs≠[]:=fun e=>by rw[e] at hi; simp at hi
  have hr:=h.rest _ e hne;refine⟨g,off,e,?_⟩;have hb:=hk.block g hr.1 (hR _ e hne);simp only[World.cell?] at hc ⊢;rw[hb];exact hc
 ·obtain⟨h1,h2⟩:=h.rest a ha hne;exact⟨by have:=hk.size; omega,h2⟩
theorem TreeSt.but {W W':World} {b base:Nat} {tT tI:TypeId} {ao po:Option Addr} {cap pcap:Nat} {ts:List TableD} {q:QueryV} {pl:List NodeV} {seen:List Nat} {sv:Value} (h:TreeSt W b base tT tI ao po cap pcap ts q pl seen sv) {R:Nat} (hb:b≠R) (hs:sv.ownBlock≠some R) (hk:Kept (fun y=>y≠R) W W'):TreeSt W' b base tT tI ao po cap pcap ts q pl seen sv:=by
 refine⟨h.g.of (hk.block _ h.g.lt hb),?_,h.lo⟩;rcases h.own.2 with⟨h1,h2⟩ | ⟨g,c,cur,h1,h2,h3,h4⟩
 ·exact⟨h.own.1,.inl ⟨h1,h2⟩⟩
 ·refine⟨h.own.1,.inr ⟨g,c,cur,h1,h2,?_,h4⟩⟩;have hgl:g<W.heap.size:=(Array.getElem?_eq_some_iff.1 h3).1;rw[hk.block g hgl (fun e=>hs (by rw[h1,e]; rfl))];exact h3
theorem VPost.lay {w0 W X:World} {b:Nat} {tT tI:TypeId} {ao po:Option Addr} {cap pcap:Nat} {ts:List TableD} {q:QueryV} {pl:List NodeV} {seen:List Nat} {sv:Value} {o:Option (ViewD × List Nat)} {W':World} {v:ViewV} {ok:Bool} (hw:w0.heap.size<=W.heap.size)
  (hT:TreeSt W b w0.heap.size tT tI ao po cap pcap ts q pl seen sv) (hX:Below W.heap.size W X) {R:Nat} (hR:W.heap.size<=R) (hRX:R<X.heap.size) (h:VPost w0 X b tT tI ao po cap pcap ts q pl sv o (.returned (.tuple #[.agg v.cells,.bool ok])) W') :
  VPost w0 W b tT tI ao po cap pcap ts q pl sv o (.returned (.tuple #[.agg v.cells,.bool ok])) (World.put6 W' R v):=by
 have h6:=World.put6_kept W' R v;have hXs:=hX.size;have hk:Kept (Rest b sv) W (World.put6 W' R v):=by
  have h0:Kept (Rest b sv) W X:=Kept.of_below hX (fun _ hl _=>hl);have h1:=h0.trans h.1;refine⟨h6.os.trans h1.os,h6.tape.trans h1.tape,h6.output.trans h1.output,Nat.le_trans h1.size h6.size,fun x hx hr=>?_⟩;rw[h6.block x (by have:=h1.size; omega) (by omega)];exact h1.block x hx hr
 refine⟨hk,?_⟩
 cases o with
 | none => exact h.2
 | some x =>
  obtain⟨vd,s'⟩:=x;obtain⟨v',e1,e2,sv',h1,h2,h3,h4,h5⟩:=h.2;have hne:∀ y:IntsV,New w0 X y->∀ a,y.ad=some a->y.xs≠[]->a.block≠R:=fun y hy a ha hn=>by
   rcases hy a ha hn with h | h <;> omega
  have hsv:sv'.ownBlock≠some R:=fun e=>by
   rcases h2 R e with h | h
   ·have:=(ownsRow_lt hT.own h).2; omega
   ·omega
  refine⟨v',e1,e2,sv',h1.but (by have:=hT.g.lt; omega) hsv h6,?_,⟨h3.1.but (hne _ h3.2) h6,h3.2.up hXs⟩,⟨h4.1.but (hne _ h4.2) h6,h4.2.up hXs⟩,⟨h5.1.but (hne _ h5.2) h6,h5.2.up hXs⟩⟩;intro g e;rcases h2 g e with h | h
  ·exact .inl h
  ·exact .inr (by omega)
end Go.Scout
namespace Go.Proofs.YtlpbelhfpoilpaaGreatDoor
open Go.RowKit Go.Scout
theorem Tryz.ne_tree:3≠114:=by decide
theorem loadView {W:World} {B:Nat} {v:ViewV} (h:GB W B 40 v.cells):(loadVar 40 (aD B 0)).run Tryz.prog W=.ok (.agg v.cells) W:=by
 have c0:W.cell? (aD B 0)=some v.s.val:=h.cell 0;have c1:W.cell? (aD B 1)=some v.c.val:=h.cell 1;have c2:W.cell? (aD B 2)=some v.o.val:=h.cell 2;have c3:W.cell? (aD B 3)=some (.bool v.out):=h.cell 3;have c4:W.cell? (aD B 4)=some (.int .u64 (v.size:Int)):=h.cell 4;have c5:W.cell? (aD B 5)=some (.int .u64 (v.cost:Int)):=h.cell 5;unfold ViewV.cells;simp[go_sem,c0,c1,c2,c3,c4,c5]
theorem ret_cell {fn:Func} {p u:Tmp} {ty:TypeId} (h:fn.results=#[.cell p ty,.tmp u]) {tmps:Array Value} {P:Program} {w:World} {B:Nat} {v x:Value} (hp:tmps.getD p undef=.pointer (some (aD B 0))) (hu:tmps.getD u undef=x) (hl:(loadVar ty (aD B 0)).run P w=.ok v w) :
  (results fn tmps).run P w=.ok (.tuple #[v,x]) w:=by
 rw[results_cell_tmp h,hp,hu];simp[go_sem] at hl ⊢;simp[hl]
theorem VPost.form {w0 W:World} {b:Nat} {tT tI:TypeId} {ao po:Option Addr} {cap pcap:Nat} {ts:List TableD} {q:QueryV} {pl:List NodeV} {sv:Value} {o:Option (ViewD × List Nat)} {e:Ending} {W':World} (h:VPost w0 W b tT tI ao po cap pcap ts q pl sv o e W'):∃ (v:ViewV) (ok:Bool),e=.returned (.tuple #[.agg v.cells,.bool ok])/\ok=o.isSome:=by
 cases o with
 | none => obtain⟨v,e⟩:=h.2; exact⟨v,false,e,rfl⟩
 | some x => obtain⟨v,e,_⟩:=h.2; exact⟨v,true,e,rfl⟩
def ViewC (w0:World) (b:Nat) (ao po:Option Addr) (cap pcap:Nat) (ts:List TableD) (q:QueryV) (pl:List NodeV) (f:Nat):Prop:=
 ∀ (i:Nat) (W:World) (seen:List Nat) (sv:Value),i<f->i<pl.length->TreeSt W b w0.heap.size 114 3 ao po cap pcap ts q pl seen sv->Below w0.heap.size w0 W->seen.Nodup->(∀ x∈seen,x<pl.length)->i ∉ seen->
  Calls Tryz.prog 43 #[.pointer (some (aD b 0)),.int .i64 i] W (VPost w0 W b 114 3 ao po cap pcap ts q pl sv (readF ts q pl f i seen))
theorem seen_len {seen:List Nat} {n:Nat} (hd:seen.Nodup) (hl:∀ x∈seen,x<n):seen.length<=n:=by
 have h:=sumTo'_count hl;rw[<- h];exact sumTo'_le (fun k=>List.nodup_iff_count.1 hd k) n
theorem mem_cast {seen:List Nat} {k:Int} (h0:0<=k):(k∈seen.map fun (i:Nat)=>(i:Int))↔k.toNat∈seen:=by
 rw[List.mem_map];constructor
 ·rintro⟨a,ha,rfl⟩
  simpa using ha
 ·intro h;exact⟨k.toNat,h,by omega⟩
theorem below_any (w0:World) (b:Nat) (ao po:Option Addr) (cap pcap:Nat) (ts:List TableD) (q:QueryV) (pl:List NodeV) (f:Nat) (hV:ViewC w0 b ao po cap pcap ts q pl f) (i:Nat) (k:Int) (hi:i<=f) (hip:i<pl.length) (hp64:pl.length<=64) (W:World) (seen:List Nat) (sv:Value)
  (hT:TreeSt W b w0.heap.size 114 3 ao po cap pcap ts q pl seen sv) (hW:Below w0.heap.size w0 W) (hd:seen.Nodup) (hl:∀ x∈seen,x<pl.length) :
  Calls Tryz.prog 96 #[.pointer (some (aD b 0)),.int .i64 i,.int .i64 k] W (VPost w0 W b 114 3 ao po cap pcap ts q pl sv (if k<0∨(i:Int)<=k∨k.toNat∈seen then none else readF ts q pl f k.toNat seen)):=by
 obtain⟨W1,hW1⟩:∃ x,x=W.alloc (.cells vvz.cells 40):=⟨_,rfl⟩
 have hb1:Below W.heap.size W W1:=by rw[hW1]; exact bQ2 _ _
 have hgv:GB W1 W.heap.size 40 vvz.cells:=by rw[hW1]; exact bQ3 _ _
 have hWC:W.alloc (.cells #[.slice none 0 0,.slice none 0 0,.slice none 0 0,.bool false,.int .u64 0,.int .u64 0] 40)=W1:=hW1.symm;have hsl:=seen_len hd hl;have hT1:=hT.below hb1;obtain⟨sa,sc,hsv,hIS⟩:=ints_own hT1.own (by simp; omega);have hse:W1.cell? (aD b 9)=some (.slice sa (seen.map fun (i:Nat)=>(i:Int)).length sc):=by rw[hT1.g.cell 9,<- hsv]; rfl
 have hHA:=has_any sa sc _ k W1 hIS;have HB0:Hid (Below w0.heap.size w0 W1):=bQ1 hW hb1;clear hW1;have hws:=hW.size;have hTlt:=hT.g.lt;by_cases hbad:k<0∨(i:Int)<=k∨k.toNat∈seen
 ·rw[if_pos hbad];have HFIN:Hid (VPost w0 W b 114 3 ao po cap pcap ts q pl sv none (.returned (.tuple #[.agg vvz.cells,.bool false])) (World.put6 W1 W.heap.size vvz)):=by
   show VPost _ _ _ _ _ _ _ _ _ _ _ _ _ _ _ _
   exact VPost.lay hws hT hb1 (Nat.le_refl _) hgv.lt ⟨Kept.refl _ _,vvz,rfl⟩
  have HLV:Hid _:=loadView (World.put6_gb hgv vvz);unfold World.put6 ViewV.cells at HFIN HLV;simp only[vvz,IntsV.val,List.length_nil,Int.natCast_zero] at HFIN HLV;have v0:W1.cell? (aD W.heap.size 0)=some (.slice none 0 0):=hgv.cell 0;have v1:W1.cell? (aD W.heap.size 1)=some (.slice none 0 0):=hgv.cell 1;have v2:W1.cell? (aD W.heap.size 2)=some (.slice none 0 0):=hgv.cell 2;have v3:W1.cell? (aD W.heap.size 3)=some (.bool false):=hgv.cell 3;have v4:W1.cell? (aD W.heap.size 4)=some (.int .u64 0):=hgv.cell 4;have v5:W1.cell? (aD W.heap.size 5)=some (.int .u64 0):=hgv.cell 5;have f0:=hgv.frozen 0;have f1:=hgv.frozen 1;have f2:=hgv.frozen 2;have f3:=hgv.frozen 3;have f4:=hgv.frozen 4;have f5:=hgv.frozen 5;have hmem:0<=k->(decide (k∈seen.map fun (i:Nat)=>(i:Int))=decide (k.toNat∈seen)):=fun h=>by
   rw[Bool.eq_iff_iff,decide_eq_true_eq,decide_eq_true_eq]; exact mem_cast h
  have HM:Hid _:=hmem;generalize (seen.map fun (i:Nat)=>(i:Int))=sx at *;clear hgv hT hT1 hIS hV hd hl hW HB0 hmem hsv hb1;go_enter Tryz.func96,Tryz.ntmps96;go_wp2_with fail;refine hHA.mono ?_;clear hHA hWC hse;rintro e w2 ⟨rfl,rfl⟩;by_cases c1:k<0
  ·go_wp2;exact bodyPost_ret (ret_cell (p:=6) (u:=7) (x:=.bool false) rfl rfl rfl HLV.out) rfl HFIN.out
  ·by_cases c2:(i:Int)<=k
   ·go_wp2;exact bodyPost_ret (ret_cell (p:=6) (u:=7) (x:=.bool false) rfl rfl rfl HLV.out) rfl HFIN.out
   ·have hin:k.toNat∈seen:=by rcases hbad with h | h | h; omega; omega; exact h
    rw[HM.out (by omega),decide_eq_true hin];clear HM hbad;go_wp2;exact bodyPost_ret (ret_cell (p:=6) (u:=7) (x:=.bool false) rfl rfl rfl HLV.out) rfl HFIN.out
 ·rw[if_neg hbad];obtain⟨kn,rfl⟩:∃ kn:Nat,k=(kn:Int):=⟨k.toNat,by omega⟩
  rw[Int.toNat_natCast] at hbad ⊢;have hki:kn<i:=by omega
  have hnm:kn ∉ seen:=fun h=>hbad (.inr (.inr h))
  have hVC:=hV kn W1 seen sv (by omega) (by omega) hT1 (bQ1 hW hb1) hd hl hnm;have hin:decide ((kn:Int)∈seen.map fun (i:Nat)=>(i:Int))=false:=by
   rw[decide_eq_false_iff_not,mem_cast (by omega),Int.toNat_natCast]; exact hnm
  rw[hin] at hHA;have HLAY:Hid (∀ (v:ViewV) (ok:Bool) (W':World),VPost w0 W1 b 114 3 ao po cap pcap ts q pl sv (readF ts q pl f kn seen) (.returned (.tuple #[.agg v.cells,.bool ok])) W'->VPost w0 W b 114 3 ao po cap pcap ts q pl sv (readF ts q pl f kn seen) (.returned (.tuple #[.agg v.cells,.bool ok])) (World.put6 W' W.heap.size v)/\GB W' W.heap.size 40 vvz.cells):=fun v ok W' h=>
   ⟨VPost.lay hws hT hb1 (Nat.le_refl _) hgv.lt h,hgv.of (h.1.block _ hgv.lt ⟨by omega,fun e=>by have:=(ownsRow_lt hT.own e).2; omega⟩)⟩
  generalize (seen.map fun (i:Nat)=>(i:Int))=sx at *;clear hgv hT hT1 hIS hV hd hl hW HB0 hsv hb1 hbad hin hnm;go_enter Tryz.func96,Tryz.ntmps96;go_wp2_with fail;refine hHA.mono ?_;clear hHA hWC hse;rintro e w2 ⟨rfl,rfl⟩;go_wp2_with fail;refine hVC.mono ?_;clear hVC;rintro e w3 hpost;obtain⟨v,ok,rfl,hok⟩:=VPost.form hpost;clear hok;obtain⟨hfin,hgv⟩:=HLAY.out v ok w3 hpost;have HLV:Hid _:=loadView (World.put6_gb hgv v);have HFIN:Hid _:=hfin;clear hfin hpost HLAY;have v0:w3.cell? (aD W.heap.size 0)=some (.slice none 0 0):=hgv.cell 0;have v1:w3.cell? (aD W.heap.size 1)=some (.slice none 0 0):=hgv.cell 1;have v2:w3.cell? (aD W.heap.size 2)=some (.slice none 0 0):=hgv.cell 2;have v3:w3.cell? (aD W.heap.size 3)=some (.bool false):=hgv.cell 3;have v4:w3.cell? (aD W.heap.size 4)=some (.int .u64 0):=hgv.cell 4;have v5:w3.cell? (aD W.heap.size 5)=some (.int .u64 0):=hgv.cell 5;have f0:=hgv.frozen 0;have f1:=hgv.frozen 1;have f2:=hgv.frozen 2;have f3:=hgv.frozen 3;have f4:=hgv.frozen 4;have f5:=hgv.frozen 5;clear hgv;obtain⟨⟨xsa,xsc,xsx⟩,⟨xca,xcc,xcx⟩,⟨xoa,xoc,xox⟩,xout,xsz,xct⟩:=v;unfold World.put6 ViewV.cells IntsV.val at *;simp only at *;go_wp2;exact bodyPost_ret (ret_cell (p:=6) (u:=7) (x:=.bool ok) rfl rfl rfl HLV.out) rfl HFIN.out
end Go.Proofs.YtlpbelhfpoilpaaGreatDoor
namespace Go.Scout
open Go.RowKit
theorem own_cellsN {e:TypeId} {base n sz:Nat} {v:Value} {xs:List Value} {W:World} (h:W.ownsRow base e sz v n xs) {b:Nat} (hb:v.ownBlock=some b):∃ cur,W.heap[b]? = some (.cells cur e (0,0)):=by
 rcases h.2 with⟨rfl,_⟩ | ⟨g,cap,cur,rfl,_,h3,_⟩
 ·cases hb
 ·cases hb
  exact⟨cur,h3⟩
theorem ownf_ne {e t:TypeId} (ht:e≠t) {base n sz:Nat} {v:Value} {xs:List Value} {W:World} (h:W.ownsRow base e sz v n xs) {b:Nat} {c:Array Value} (hg:GB W b t c):v.ownBlock≠some b:=fun hb=>by
 obtain⟨cur,hc⟩:=own_cellsN h hb;unfold GB at hg;rw[hc] at hg;injection hg with hg;injection hg with _ hg;exact ht hg
theorem ownf_ne2 {e t:TypeId} (ht:e≠t) {base base' n n' sz sz':Nat} {v v':Value} {xs xs':List Value} {W:World} (h:W.ownsRow base e sz v n xs) (h':W.ownsRow base' t sz' v' n' xs') {b:Nat} (hb:v.ownBlock=some b):v'.ownBlock≠some b:=fun hb'=>by
 obtain⟨cur,hc⟩:=own_cellsN h hb;obtain⟨cur',hc'⟩:=own_cellsN h' hb';rw[hc] at hc';injection hc' with hg;injection hg with _ hg;exact ht hg
theorem grown_in {W w5:World} {bf:Nat} {tF e:TypeId} (ht:e≠tF) {cells:Array Value} (hg:GB W bf tF cells) {base sz n n':Nat} {v v':Value} {xs xs':List Value} (ho:W.ownsRow base e sz v n xs) (ho5:w5.ownsRow base e sz v' n' xs') (hk:Kept (fun b=>v.ownBlock≠some b) W w5)
  (hat:v'.ownBlock=v.ownBlock∨v'.ownBlock=some (W.heap.size+1)) (i:Nat) :
  GB w5 bf tF cells/\GB (w5.setCell (aD bf i) v') bf tF (cells.setIfInBounds i v')/\(w5.setCell (aD bf i) v').ownsRow base e sz v' n' xs'/\Kept (fun b=>b≠bf/\v.ownBlock≠some b) W (w5.setCell (aD bf i) v'):=by
 have hne:=ownf_ne ht ho hg;have hg5:GB w5 bf tF cells:=hg.keep hk hne;have hlt:=hg.lt;have hne':v'.ownBlock≠some bf:=fun e=>by
  rcases hat with h | h
  ·rw[h] at e; exact hne e
  ·rw[h] at e; injection e with e; omega
 refine⟨hg5,hg5.set i v',?_,(hk.mono fun _ _ h=>h.2).trans (Kept.setCell _ _ _ (fun h=>h.1 rfl))⟩;exact ownsRow_keep ho5 (s:=fun b=>b≠bf) (Kept.setCell _ _ _ (fun h=>h rfl)) (fun g hg' e=>hne' (by rw[hg',e]))
theorem cols_next (ts:List TableD) (src:List Int) (k m:Nat):(colsTo ts src k++((List.range (m+1)).map fun m=>(k,(ts.getD (src.getD k 0).toNat tz).kd m))).flatMap colList=(colsTo ts src k++((List.range m).map fun m=>(k,(ts.getD (src.getD k 0).toNat tz).kd m))).flatMap colList++colList (k,(ts.getD (src.getD k 0).toNat tz).kd m):=by
 rw[List.range_succ,List.map_append,<- List.append_assoc,List.flatMap_append];simp
def rowsTo (ts:List TableD) (src:List Int) (k:Nat):List Nat:=(List.range k).map fun (k:Nat)=>rowsN ts src (k:Int)
theorem rowsTo_succ (ts:List TableD) (src:List Int) (k:Nat):rowsTo ts src (k+1)=rowsTo ts src k++[rowsN ts src (k:Int)]:=by
 unfold rowsTo;rw[List.range_succ,List.map_append];rfl
theorem rowsTo_len (ts:List TableD) (src:List Int) (k:Nat):(rowsTo ts src k).length=k:=by unfold rowsTo; simp
theorem colsTo_le {ts:List TableD} {src:List Int} (hc:catB ts=true) (ha:allB src ts.length=true) (h:src.length<=64):∀ k,k<=src.length->(colsTo ts src k).length<=4*k
 | 0,_ => by simp[colsTo]
 | k+1,hk => by
  have ih:=colsTo_le hc ha h k (by omega);rw[colsTo_succ,List.length_append,List.length_map,List.length_range];obtain⟨h0,h1⟩:=allB_get ha (k:=k) (by omega);have ht:=table_of hc (i:=(src.getD k 0).toNat) (by omega);unfold tableB at ht;rw[decide_eq_true_eq] at ht;omega
theorem results_cell1 {fn:Func} {p:Tmp} {ty:TypeId} (h:fn.results=#[.cell p ty]) (tmps:Array Value) (P:Program) (w:World) :
  (results fn tmps).run P w=((asAddr (tmps.getD p undef)).run P w).andThen fun a w₁=>(loadVar ty a).run P w₁:=by
 simp only[results,h];simp[Sem.run_bind,Result.andThen]
theorem ret_cell1 {fn:Func} {p:Tmp} {ty:TypeId} (h:fn.results=#[.cell p ty]) {tmps:Array Value} {P:Program} {w:World} {B:Nat} {v:Value} (hp:tmps.getD p undef=.pointer (some (aD B 0))) (hl:(loadVar ty (aD B 0)).run P w=.ok v w) :
  (results fn tmps).run P w=.ok v w:=by
 rw[results_cell1 h,hp];simp[go_sem] at hl ⊢;simp[hl]
end Go.Scout
namespace Go.Proofs.YtlpbelhfpoilpaaGreatDoor
open Go.RowKit Go.Scout
theorem firstOf64_any (n:Nat) (hn:n<=64) (w:World) :
  Calls Tryz.prog 145 #[.int .i64 (n:Int)] w fun e w'=>e=.returned (.int .u64 ((2 ^ n-1:Nat):Int))/\w' = w:=by
 rcases Nat.lt_or_ge n 64 with h | h
 ·exact firstOf_any n h w
 ·obtain rfl:n=64:=by omega
  go_enter Tryz.func145,Tryz.ntmps145;go_wp2;go_ret;exact⟨rfl,rfl⟩
end Go.Proofs.YtlpbelhfpoilpaaGreatDoor
