import Derived.Test.YtlpbelhfpoilpaaGreatDoorC05
import Derived.Test.YtlpbelhfpoilpaaGreatDoorC13
set_option linter.all false
set_option maxRecDepth 100000
set_option maxHeartbeats 16000000
namespace Go.Scout
open Go.RowKit
structure ViewV where
 s:IntsV
 c:IntsV
 o:IntsV
 out:Bool
 size:Nat
 cost:Nat
def ViewV.cells (v:ViewV):Array Value:=#[v.s.val,v.c.val,v.o.val,.bool v.out,.int .u64 (v.size:Int),.int .u64 (v.cost:Int)]
def ViewV.d (v:ViewV):ViewD:=⟨v.s.xs,v.c.xs,v.o.xs,v.out,v.size,v.cost⟩
def vvz:ViewV:=⟨⟨none,0,[]⟩,⟨none,0,[]⟩,⟨none,0,[]⟩,false,0,0⟩
end Go.Scout
namespace Go.Proofs.YtlpbelhfpoilpaaGreatDoor
open Go.RowKit Go.Scout
theorem cost_any (kind:Int) (s:Nat) (l r:ViewV) (w:World) (hs:s<=topN) (h1:l.size<=topN) (h2:l.cost<=topN) (h3:r.size<=topN) (h4:r.cost<=topN) :
  Calls Tryz.prog 95 #[.int .i64 kind,.int .u64 s,.agg l.cells,.agg r.cells] w fun e w'=>e=.returned (.int .u64 (costN kind s l.d r.d:Nat))/\Below w.heap.size w w':=by
 have HE:Hid (costN kind s l.d r.d=if kind=1 then plusN s 1 else if kind=3 then plusN (plusN l.cost r.cost) (timesN l.size r.size) else if kind=4 then plusN (plusN l.cost r.cost) (plusN (plusN l.size s) (timesN 2 r.size)) else if kind=5 then plusN (plusN l.cost r.cost) (plusN (plusN l.size s) r.size)
  else if kind=6∨kind=10 then plusN l.cost (timesN l.size (bitsN l.size+1)) else if kind=7 then plusN l.cost (timesN 2 l.size) else plusN l.cost l.size):=rfl
 obtain⟨E,hE⟩:∃ E,E=costN kind s l.d r.d:=⟨_,rfl⟩
 rw[<- hE] at HE ⊢;clear hE;have HB:Hid (bitsN l.size<=64):=bitsN_le h1;have hPL:∀ (a b:Nat),a<=topN->b<=topN->∀ x,Calls Tryz.prog 158 #[.int .u64 a,.int .u64 b] x fun e w'=>e=.returned (.int .u64 (plusN a b:Nat))/\w' = x:=fun a b ha hb x=>plus_any a b ha hb x
 have hTI:∀ (a b:Nat),a<=topN->b<=topN->∀ x,Calls Tryz.prog 156 #[.int .u64 a,.int .u64 b] x fun e w'=>e=.returned (.int .u64 (timesN a b:Nat))/\w' = x:=fun a b ha hb x=>times_any a b ha hb x
 obtain⟨⟨sa,sc,sx⟩,⟨ca,cc,cx⟩,⟨oa,oc,ox⟩,lout,ls,lc⟩:=l;obtain⟨⟨sa',sc',sx'⟩,⟨ca',cc',cx'⟩,⟨oa',oc',ox'⟩,rout,rs,rc⟩:=r;unfold ViewV.cells IntsV.val;simp only at HE HB h1 h2 h3 h4 ⊢;obtain⟨w1,hw1⟩:∃ x,x=(w.alloc (.cells #[.slice sa sx.length sc,.slice ca cx.length cc,.slice oa ox.length oc,.bool lout,.int .u64 (ls:Int),.int .u64 (lc:Int)] 40)).alloc (.cells #[.slice sa' sx'.length sc',.slice ca' cx'.length cc',.slice oa' ox'.length oc',.bool rout,.int .u64 (rs:Int),.int .u64 (rc:Int)] 40):=⟨_,rfl⟩
 have hk1:Below w.heap.size w w1:=by rw[hw1]; exact bQ1 (bQ2 _ _) (bQ2 _ _)
 have gl:GB w1 w.heap.size 40 #[.slice sa sx.length sc,.slice ca cx.length cc,.slice oa ox.length oc,.bool lout,.int .u64 (ls:Int),.int .u64 (lc:Int)]:=by
  rw[hw1]
  show _=_
  rw[heap_alloc (by simp),bQ3]
 have gr:GB w1 (w.heap.size+1) 40 #[.slice sa' sx'.length sc',.slice ca' cx'.length cc',.slice oa' ox'.length oc',.bool rout,.int .u64 (rs:Int),.int .u64 (rc:Int)]:=by
  rw[hw1]
  show _=_
  have:=bQ3 (w.alloc (.cells #[.slice sa sx.length sc,.slice ca cx.length cc,.slice oa ox.length oc,.bool lout,.int .u64 (ls:Int),.int .u64 (lc:Int)] 40)) (.cells #[.slice sa' sx'.length sc',.slice ca' cx'.length cc',.slice oa' ox'.length oc',.bool rout,.int .u64 (rs:Int),.int .u64 (rc:Int)] 40);rw[World.size_alloc] at this;exact this
 have l4:w1.cell? (aD w.heap.size 4)=some (.int .u64 (ls:Int)):=gl.cell 4;have l5:w1.cell? (aD w.heap.size 5)=some (.int .u64 (lc:Int)):=gl.cell 5;have r4:w1.cell? (aD (w.heap.size+1) 4)=some (.int .u64 (rs:Int)):=gr.cell 4;have r5:w1.cell? (aD (w.heap.size+1) 5)=some (.int .u64 (rc:Int)):=gr.cell 5;have hWC:=hw1.symm;have hp1:=plusN_le lc rc;have hp2:=plusN_le ls s;have hp3:=timesN_le 2 rs;have hp4:=timesN_le ls rs;have hp5:=plusN_le (plusN ls s) rs;have hp6:=plusN_le (plusN ls s) (timesN 2 rs);have hp7:=timesN_le 2 ls;have hp8:=timesN_le ls (bitsN ls+1);have ht2:(2:Nat)<=topN:=by unfold topN; omega
 have ht1:(1:Nat)<=topN:=by unfold topN; omega
 clear gl gr hw1;go_enter Tryz.func95,Tryz.ntmps95;go_wp2_with fail;refine (hPL lc rc h2 h4 w1).mono ?_;rintro e w2 ⟨rfl,rfl⟩;clear hWC;go_wp2_with fail;refine (hPL ls s h1 hs w2).mono ?_;rintro e w3 ⟨rfl,rfl⟩;by_cases k1:kind=1
 ·subst k1;go_wp2_with fail;refine (hPL s 1 hs ht1 w3).mono ?_;rintro e w4 ⟨rfl,rfl⟩;go_wp2;go_ret;exact⟨ret_u64 (by rw[HE.out]; rfl),hk1⟩
 by_cases k3:kind=3
 ·subst k3;go_wp2_with fail;refine (hTI ls rs h1 h3 w3).mono ?_;rintro e w4 ⟨rfl,rfl⟩;go_wp2_with fail;refine (hPL (plusN lc rc) (timesN ls rs) hp1 hp4 w4).mono ?_;rintro e w5 ⟨rfl,rfl⟩;go_wp2;go_ret;exact⟨ret_u64 (by rw[HE.out]; rfl),hk1⟩
 by_cases k4:kind=4
 ·subst k4;go_wp2_with fail;refine (hTI 2 rs ht2 h3 w3).mono ?_;rintro e w4 ⟨rfl,rfl⟩;go_wp2_with fail;refine (hPL (plusN ls s) (timesN 2 rs) hp2 hp3 w4).mono ?_;rintro e w5 ⟨rfl,rfl⟩;go_wp2_with fail;refine (hPL (plusN lc rc) (plusN (plusN ls s) (timesN 2 rs)) hp1 hp6 w5).mono ?_;rintro e w6 ⟨rfl,rfl⟩;go_wp2;go_ret;exact⟨ret_u64 (by rw[HE.out]; rfl),hk1⟩
 by_cases k5:kind=5
 ·subst k5;go_wp2_with fail;refine (hPL (plusN ls s) rs hp2 h3 w3).mono ?_;rintro e w4 ⟨rfl,rfl⟩;go_wp2_with fail;refine (hPL (plusN lc rc) (plusN (plusN ls s) rs) hp1 hp5 w4).mono ?_;rintro e w5 ⟨rfl,rfl⟩;go_wp2;go_ret;exact⟨ret_u64 (by rw[HE.out]; rfl),hk1⟩
 have kb1:(kind==1)=false:=by simp[k1]
 have kb3:(kind==3)=false:=by simp[k3]
 have kb4:(kind==4)=false:=by simp[k4]
 have kb5:(kind==5)=false:=by simp[k5]
 rw[if_neg k1,if_neg k3,if_neg k4,if_neg k5] at HE;clear hp1 hp2 hp3 hp4 hp5 hp6;by_cases k6:kind=6∨kind=10
 ·rw[if_pos k6] at HE;have HPLb:Hid (∀ (a b:Nat),a<=topN->b<=topN->∀ x,Calls Tryz.prog 158 #[.int .u64 a,.int .u64 b] x fun e w'=>e=.returned (.int .u64 (plusN a b:Nat))/\Below x.heap.size x w'):=fun a b ha hb x=>(hPL a b ha hb x).mono (fun _ _ h=>⟨h.1,by rw[h.2]; exact Below.refl _ _⟩)
  have HTIb:Hid (∀ (a b:Nat),a<=topN->b<=topN->∀ x,Calls Tryz.prog 156 #[.int .u64 a,.int .u64 b] x fun e w'=>e=.returned (.int .u64 (timesN a b:Nat))/\Below x.heap.size x w'):=fun a b ha hb x=>(hTI a b ha hb x).mono (fun _ _ h=>⟨h.1,by rw[h.2]; exact Below.refl _ _⟩)
  have hBI:=bits_any ls h1 w3;have hb64:=HB.out;have HT8:Hid _:=HTIb.out ls (bitsN ls+1) h1 (by unfold topN; omega);have HP8:Hid _:=HPLb.out lc (timesN ls (bitsN ls+1)) h2 hp8;clear hPL hTI HPLb HTIb hp7 hp8 HB;obtain⟨B,hB⟩:∃ B,B=bitsN ls+1:=⟨_,rfl⟩
  rw[<- hB] at HE HT8 HP8;generalize bitsN ls=b at *;have hcast:((b:Int))+1=(B:Int):=by omega
  have hwB:IntKind.u64.wrap (B:Int)=B:=by rw[IntKind.wrap_u64]; omega
  clear hB;rcases k6 with k6 | k6
  ·subst k6;clear k1 k3 k4 k5 kb1 kb3 kb4 kb5;go_wp2_with fail;refine hBI.mono ?_;rintro e w4 ⟨rfl,rfl⟩;go_wp2;refine wp_region_below (by kernel_rfl) (by kernel_rfl) ?_;go_big_quiet_want;refine⟨.pointer (some (aD w.heap.size 5)),fun x hx=>?_,?_⟩
   ·go_simp
   simp only[pA,sB,sC];go_big_quiet_on;go_big_quiet_want;refine⟨.int .u64 lc,fun x hx=>?_,?_⟩
   ·have e0:=cB hx l5;go_simp
   simp only[pA,sB,sC];go_big_quiet_on;go_big_quiet_want;refine⟨.pointer (some (aD w.heap.size 4)),fun x hx=>?_,?_⟩
   ·go_simp
   simp only[pA,sB,sC];go_big_quiet_on;go_big_quiet_want;refine⟨.int .u64 ls,fun x hx=>?_,?_⟩
   ·have e0:=cB hx l4;go_simp
   simp only[pA,sB,sC];go_big_quiet_on;go_big_quiet_want;refine⟨.int .u64 b,fun x hx=>?_,?_⟩
   ·go_simp
   simp only[pA,sB,sC];go_big_quiet_on;go_big_quiet_want;refine⟨.int .u64 B,fun x hx=>?_,?_⟩
   ·go_simp
   simp only[pA,sB,sC];go_big_quiet_on;go_big_quiet_want;refine⟨.int .u64 (timesN ls B:Nat),fun x hx=>?_,?_⟩
   ·have hC:=Calls.within hx (HT8.out x);go_simp
   simp only[pA,sB,sC];go_big_quiet_on;go_big_quiet_want;refine⟨.int .u64 (plusN lc (timesN ls B):Nat),fun x hx=>?_,?_⟩
   ·have hC:=Calls.within hx (HP8.out x);go_simp
   simp only[pA,sB,sC];go_big_quiet_on;go_big_quiet_want;refine⟨.int .u64 (plusN lc (timesN ls B):Nat),fun x hx=>?_,?_⟩
   ·go_simp
   simp only[pA,sB,sC];go_big_quiet_on;refine wpQuiet_nil ?_;intro w5 hb5;have k5':=bQ1 hk1 hb5;go_wp2;go_ret;exact⟨ret_u64 (by rw[HE.out]),k5'⟩
  ·subst k6;clear k1 k3 k4 k5 kb1 kb3 kb4 kb5;go_wp2_with fail;refine hBI.mono ?_;rintro e w4 ⟨rfl,rfl⟩;go_wp2;refine wp_region_below (by kernel_rfl) (by kernel_rfl) ?_;go_big_quiet_want;refine⟨.pointer (some (aD w.heap.size 5)),fun x hx=>?_,?_⟩
   ·go_simp
   simp only[pA,sB,sC];go_big_quiet_on;go_big_quiet_want;refine⟨.int .u64 lc,fun x hx=>?_,?_⟩
   ·have e0:=cB hx l5;go_simp
   simp only[pA,sB,sC];go_big_quiet_on;go_big_quiet_want;refine⟨.pointer (some (aD w.heap.size 4)),fun x hx=>?_,?_⟩
   ·go_simp
   simp only[pA,sB,sC];go_big_quiet_on;go_big_quiet_want;refine⟨.int .u64 ls,fun x hx=>?_,?_⟩
   ·have e0:=cB hx l4;go_simp
   simp only[pA,sB,sC];go_big_quiet_on;go_big_quiet_want;refine⟨.int .u64 b,fun x hx=>?_,?_⟩
   ·go_simp
   simp only[pA,sB,sC];go_big_quiet_on;go_big_quiet_want;refine⟨.int .u64 B,fun x hx=>?_,?_⟩
   ·go_simp
   simp only[pA,sB,sC];go_big_quiet_on;go_big_quiet_want;refine⟨.int .u64 (timesN ls B:Nat),fun x hx=>?_,?_⟩
   ·have hC:=Calls.within hx (HT8.out x);go_simp
   simp only[pA,sB,sC];go_big_quiet_on;go_big_quiet_want;refine⟨.int .u64 (plusN lc (timesN ls B):Nat),fun x hx=>?_,?_⟩
   ·have hC:=Calls.within hx (HP8.out x);go_simp
   simp only[pA,sB,sC];go_big_quiet_on;go_big_quiet_want;refine⟨.int .u64 (plusN lc (timesN ls B):Nat),fun x hx=>?_,?_⟩
   ·go_simp
   simp only[pA,sB,sC];go_big_quiet_on;refine wpQuiet_nil ?_;intro w5 hb5;have k5':=bQ1 hk1 hb5;go_wp2;go_ret;exact⟨ret_u64 (by rw[HE.out]),k5'⟩
 have kb6:(kind==6)=false:=by simp; omega
 have kb10:(kind==10)=false:=by simp; omega
 rw[if_neg k6] at HE;by_cases k7:kind=7
 ·subst k7;have HPLb:Hid (∀ (a b:Nat),a<=topN->b<=topN->∀ x,Calls Tryz.prog 158 #[.int .u64 a,.int .u64 b] x fun e w'=>e=.returned (.int .u64 (plusN a b:Nat))/\Below x.heap.size x w'):=fun a b ha hb x=>(hPL a b ha hb x).mono (fun _ _ h=>⟨h.1,by rw[h.2]; exact Below.refl _ _⟩)
  have HTIb:Hid (∀ (a b:Nat),a<=topN->b<=topN->∀ x,Calls Tryz.prog 156 #[.int .u64 a,.int .u64 b] x fun e w'=>e=.returned (.int .u64 (timesN a b:Nat))/\Below x.heap.size x w'):=fun a b ha hb x=>(hTI a b ha hb x).mono (fun _ _ h=>⟨h.1,by rw[h.2]; exact Below.refl _ _⟩)
  have HT8:Hid (∀ x,Calls Tryz.prog 156 #[.int .u64 2,.int .u64 ls] x fun e w'=>e=.returned (.int .u64 (timesN 2 ls:Nat))/\Below x.heap.size x w'):=HTIb.out 2 ls ht2 h1;have HP8:Hid _:=HPLb.out lc (timesN 2 ls) h2 hp7;clear hPL hTI HPLb HTIb hp7 hp8 HB k1 k3 k4 k5 k6 kb1 kb3 kb4 kb5 kb6 kb10;go_wp2;refine wp_region_below (by kernel_rfl) (by kernel_rfl) ?_;go_big_quiet_want;refine⟨.pointer (some (aD w.heap.size 5)),fun x hx=>?_,?_⟩
  ·go_simp
  simp only[pA,sB,sC];go_big_quiet_on;go_big_quiet_want;refine⟨.int .u64 lc,fun x hx=>?_,?_⟩
  ·have e0:=cB hx l5;go_simp
  simp only[pA,sB,sC];go_big_quiet_on;go_big_quiet_want;refine⟨.pointer (some (aD w.heap.size 4)),fun x hx=>?_,?_⟩
  ·go_simp
  simp only[pA,sB,sC];go_big_quiet_on;go_big_quiet_want;refine⟨.int .u64 ls,fun x hx=>?_,?_⟩
  ·have e0:=cB hx l4;go_simp
  simp only[pA,sB,sC];go_big_quiet_on;go_big_quiet_want;refine⟨.int .u64 (timesN 2 ls:Nat),fun x hx=>?_,?_⟩
  ·have hC:=Calls.within hx (HT8.out x);go_simp
  simp only[pA,sB,sC];go_big_quiet_on;go_big_quiet_want;refine⟨.int .u64 (plusN lc (timesN 2 ls):Nat),fun x hx=>?_,?_⟩
  ·have hC:=Calls.within hx (HP8.out x);go_simp
  simp only[pA,sB,sC];go_big_quiet_on;go_big_quiet_want;refine⟨.int .u64 (plusN lc (timesN 2 ls):Nat),fun x hx=>?_,?_⟩
  ·go_simp
  simp only[pA,sB,sC];go_big_quiet_on;refine wpQuiet_nil ?_;intro w5 hb5;have k5':=bQ1 hk1 hb5;go_wp2;go_ret;exact⟨ret_u64 (by rw[HE.out]; rfl),k5'⟩
 have kb7:(kind==7)=false:=by simp[k7]
 rw[if_neg k7] at HE;go_wp2_with fail;refine (hPL lc ls h2 h1 w3).mono ?_;rintro e w4 ⟨rfl,rfl⟩;go_wp2;go_ret;exact⟨ret_u64 (by rw[HE.out]),hk1⟩
theorem ret3 {x y x' y':Int} {b b':Bool} (h:(x,y,b)=(x',y',b')):Ending.returned (.tuple #[.int .i64 x,.int .i64 y,.bool b])=.returned (.tuple #[.int .i64 x',.int .i64 y',.bool b']):=by
 injection h with h1 h2;injection h2 with h2 h3;rw[h1,h2,h3]
theorem sides_any (ao aa ba:Option Addr) (cap acap bcap:Nat) (ts:List TableD) (q:QueryV) (k:Nat) (A B:List Int) (w:World) (hx:TablesAt w ao ts) (hc:catB ts=true) (hq:q.At w) (h5:q.src.xs.length<=5) (ha:allB q.src.xs ts.length=true) (hk:k<q.wh.length)
  (hcol:∀ c∈columnsN (q.wh.getD k lz).cs,0<=c/\c<widthN ts q.src.xs) (hA:IntsAt w aa A) (hB:IntsAt w ba B) :
  Calls Tryz.prog 161 #[.slice ao ts.length cap,.agg q.cells,.int .i64 k,.slice aa A.length acap,.slice ba B.length bcap] w fun e w'=>
   e=.returned (.tuple #[.int .i64 (sidesN ts q.src.xs (q.wh.getD k lz).cs A B).1,.int .i64 (sidesN ts q.src.xs (q.wh.getD k lz).cs A B).2.1,.bool (sidesN ts q.src.xs (q.wh.getD k lz).cs A B).2.2])/\Below w.heap.size w w':=by
 have HSO:Hid (∀ c∈columnsN (q.wh.getD k lz).cs,∀ x,Below w.heap.size w x->Calls Tryz.prog 162 #[.slice ao ts.length cap,.agg q.cells,.int .i64 c] x fun e w'=>e=.returned (.int .i64 (sourceN ts q.src.xs c:Nat))/\Below x.heap.size x w'):=fun c hm x hb=>
  source_any ao cap ts q c x (hx.below hb) hc (IntsAt.below hb hq.src) h5 ha (hcol c hm).1 (hcol c hm).2
 have hwl:=hq.wh.1;obtain⟨wb,wo,hwad,hwc⟩:=CellsAt.get hq.wh.2.1 hk;have hck:=hwc k hk;have hcs:=hq.wh.2.2 k hk;clear hwc hq hcol hc ha hx;have HA:Hid _:=hA;have HB:Hid _:=hB;clear hA hB;obtain⟨w1,hw1⟩:∃ x,x=w.alloc (.cells q.cells 26):=⟨_,rfl⟩
 have hk1:Below w.heap.size w w1:=by rw[hw1]; exact bQ2 _ _
 have hbox:GB w1 w.heap.size 26 q.cells:=by rw[hw1]; exact bQ3 _ _
 obtain⟨⟨sad,scap,xs⟩,wad,wcap,wh,group,⟨kad,kcap,kxs⟩,⟨uad,ucap,uxs⟩,⟨lad,lcap,lxs⟩,⟨oad,ocap,oxs⟩⟩:=q;unfold QueryV.cells IntsV.val at *;simp only at *;subst hwad;generalize wh.getD k lz=cl at *;obtain⟨ca,cc,cs⟩:=cl;unfold ClauseV.val at hck;simp only at hck hcs HSO ⊢;have HSI:Hid (sidesN ts xs cs A B=if cs.length≠1∨(cs.getD 0 cz).not=true∨(cs.getD 0 cz).const=true∨(cs.getD 0 cz).op≠0 then (0,0,false)
  else if (sourceN ts xs (cs.getD 0 cz).left:Int)∈A/\(sourceN ts xs (cs.getD 0 cz).right:Int)∈B then ((cs.getD 0 cz).left,(cs.getD 0 cz).right,true)
  else ((cs.getD 0 cz).right,(cs.getD 0 cz).left,decide ((sourceN ts xs (cs.getD 0 cz).right:Int)∈A)&&decide ((sourceN ts xs (cs.getD 0 cz).left:Int)∈B))):=rfl
 generalize sidesN ts xs cs A B=SI at *;have q0:w1.cell? (aD w.heap.size 0)=some (.slice sad xs.length scap):=hbox.cell 0;have q1:w1.cell? (aD w.heap.size 1)=some (.slice (some (aD wb wo)) wh.length wcap):=hbox.cell 1;have q2:w1.cell? (aD w.heap.size 2)=some (.bool group):=hbox.cell 2;have q3:w1.cell? (aD w.heap.size 3)=some (.slice kad kxs.length kcap):=hbox.cell 3;have q4:w1.cell? (aD w.heap.size 4)=some (.slice uad uxs.length ucap):=hbox.cell 4;have q5:w1.cell? (aD w.heap.size 5)=some (.slice lad lxs.length lcap):=hbox.cell 5;have q6:w1.cell? (aD w.heap.size 6)=some (.slice oad oxs.length ocap):=hbox.cell 6;have hWC:w.alloc (.cells #[.slice sad xs.length scap,.slice (some (aD wb wo)) wh.length wcap,.bool group,.slice kad kxs.length kcap,.slice uad uxs.length ucap,.slice lad lxs.length lcap,.slice oad oxs.length ocap] 26)=w1:=hw1.symm;have hck1:=cB hk1 hck;clear hw1 hbox hck;have hcl:=hcs.1;by_cases hone:cs.length=1
 ·obtain⟨cb,co,rfl,c0,c1,c2,c3,c4⟩:=hcs.2 0 (by omega);have d0:=cB hk1 c0;have d1:=cB hk1 c1;have d2:=cB hk1 c2;have d3:=cB hk1 c3;have d4:=cB hk1 c4;have HCO:Hid (columnsN cs=condCols (cs.getD 0 cz)):=by
   show _=_
   match cs,hone with
   | [c],_ => simp[columnsN]
  clear c0 c1 c2 c3 c4 hcs;generalize cs.getD 0 cz=c at *;obtain⟨not,op,left,const,right⟩:=c;simp only[Nat.zero_mul,Nat.add_zero] at d0 d1 d2 d3 d4 HCO HSI;have HL:=HSO.out;rw[HCO.out] at HL;unfold condCols at HL;simp only at HL;have HL2:Hid _:=HL;clear HL HSO HCO hcl;rw[hone] at hck1
  cases not with
  | true =>
   rw[if_pos (.inr (.inl rfl))] at HSI;go_enter Tryz.func161,Tryz.ntmps161;go_wp2;go_ret3;exact⟨ret3 (by rw[HSI.out]),hk1⟩
  | false =>
   cases const with
   | true =>
    rw[if_pos (.inr (.inr (.inl rfl)))] at HSI;go_enter Tryz.func161,Tryz.ntmps161;go_wp2;go_ret3;exact⟨ret3 (by rw[HSI.out]),hk1⟩
   | false =>
    by_cases o0:op=0
    ·subst o0;rw[if_neg (by rintro (e | e | e | e); exact e hone; cases e; cases e; exact e rfl)] at HSI;have HSl:Hid _:=HL2.out left (by rw[if_pos ⟨by omega,rfl⟩]; simp);have HSr:Hid _:=HL2.out right (by rw[if_pos ⟨by omega,rfl⟩]; simp);clear HL2;generalize sourceN ts xs left=X at *;generalize sourceN ts xs right=Y at *;go_enter Tryz.func161,Tryz.ntmps161;go_wp2;refine wp_region_below (by kernel_rfl) (by kernel_rfl) ?_;go_big_quiet_want;refine⟨.slice ao ts.length cap,fun x hx=>?_,?_⟩
     ·go_simp
     simp only[pA,sB,sC];go_big_quiet_on;go_big_quiet_want;refine⟨.agg #[.slice sad xs.length scap,.slice (some (aD wb wo)) wh.length wcap,.bool group,.slice kad kxs.length kcap,.slice uad uxs.length ucap,.slice lad lxs.length lcap,.slice oad oxs.length ocap],fun x hx=>?_,?_⟩
     ·have e0:=cB (hx) q0;have e1:=cB (hx) q1;have e2:=cB (hx) q2;have e3:=cB (hx) q3;have e4:=cB (hx) q4;have e5:=cB (hx) q5;have e6:=cB (hx) q6;go_simp
     simp only[pA,sB,sC];go_big_quiet_on;go_big_quiet_want;refine⟨.slice (some (aD cb co)) 1 cc,fun x hx=>?_,?_⟩
     ·go_simp
     simp only[pA,sB,sC];go_big_quiet_on;go_big_quiet_want;refine⟨.pointer (some (aD cb co)),fun x hx=>?_,?_⟩
     ·go_simp
     simp only[pA,sB,sC];go_big_quiet_on;go_big_quiet_want;refine⟨.pointer (some (aD cb (co+2))),fun x hx=>?_,?_⟩
     ·go_simp
     simp only[pA,sB,sC];go_big_quiet_on;go_big_quiet_want;refine⟨.int .i64 left,fun x hx=>?_,?_⟩
     ·have e0:=cB (hx) d2;go_simp
     simp only[pA,sB,sC];go_big_quiet_on;go_big_quiet_want;refine⟨.int .i64 X,fun x hx=>?_,?_⟩
     ·have hC:=Calls.within hx (HSl.out x (bQ1 hk1 hx));go_simp
     simp only[pA,sB,sC];go_big_quiet_on;go_big_quiet_want;refine⟨.int .i64 X,fun x hx=>?_,?_⟩
     ·go_simp
     simp only[pA,sB,sC];go_big_quiet_on;refine wpQuiet_nil ?_;intro w2 hb2;have k2:=bQ1 hk1 hb2;go_wp2;refine wp_region_below (by kernel_rfl) (by kernel_rfl) ?_;go_big_quiet_want;refine⟨.slice ao ts.length cap,fun x hx=>?_,?_⟩
     ·go_simp
     simp only[pA,sB,sC];go_big_quiet_on;go_big_quiet_want;refine⟨.agg #[.slice sad xs.length scap,.slice (some (aD wb wo)) wh.length wcap,.bool group,.slice kad kxs.length kcap,.slice uad uxs.length ucap,.slice lad lxs.length lcap,.slice oad oxs.length ocap],fun x hx=>?_,?_⟩
     ·have e0:=cB (bQ1 hb2 hx) q0;have e1:=cB (bQ1 hb2 hx) q1;have e2:=cB (bQ1 hb2 hx) q2;have e3:=cB (bQ1 hb2 hx) q3;have e4:=cB (bQ1 hb2 hx) q4;have e5:=cB (bQ1 hb2 hx) q5;have e6:=cB (bQ1 hb2 hx) q6;go_simp
     simp only[pA,sB,sC];go_big_quiet_on;go_big_quiet_want;refine⟨.slice (some (aD cb co)) 1 cc,fun x hx=>?_,?_⟩
     ·go_simp
     simp only[pA,sB,sC];go_big_quiet_on;go_big_quiet_want;refine⟨.pointer (some (aD cb co)),fun x hx=>?_,?_⟩
     ·go_simp
     simp only[pA,sB,sC];go_big_quiet_on;go_big_quiet_want;refine⟨.pointer (some (aD cb (co+4))),fun x hx=>?_,?_⟩
     ·go_simp
     simp only[pA,sB,sC];go_big_quiet_on;go_big_quiet_want;refine⟨.int .i64 right,fun x hx=>?_,?_⟩
     ·have e0:=cB (bQ1 hb2 hx) d4;go_simp
     simp only[pA,sB,sC];go_big_quiet_on;go_big_quiet_want;refine⟨.int .i64 Y,fun x hx=>?_,?_⟩
     ·have hC:=Calls.within hx (HSr.out x (bQ1 k2 hx));go_simp
     simp only[pA,sB,sC];go_big_quiet_on;go_big_quiet_want;refine⟨.int .i64 Y,fun x hx=>?_,?_⟩
     ·go_simp
     simp only[pA,sB,sC];go_big_quiet_on;refine wpQuiet_nil ?_;intro w3 hb3;have kb3:=bQ1 hb2 hb3;have k3:=bQ1 k2 hb3;clear hb2 hb3 k2 HSl HSr;have d2':=cB kb3 d2;have d4':=cB kb3 d4;have hHA:=has_any aa acap A (X:Int) w3 (IntsAt.below k3 HA.out);have hHB:=has_any ba bcap B (Y:Int) w3 (IntsAt.below k3 HB.out);have hHC:=has_any aa acap A (Y:Int) w3 (IntsAt.below k3 HA.out);have hHD:=has_any ba bcap B (X:Int) w3 (IntsAt.below k3 HB.out);go_wp2_with fail;refine hHA.mono ?_;rintro e w4 ⟨rfl,rfl⟩;clear hHA;go_wp2_with fail;refine hHB.mono ?_;rintro e w5 ⟨rfl,rfl⟩;clear hHB;by_cases hxy:(X:Int)∈A/\(Y:Int)∈B
     ·rw[if_pos hxy] at HSI;rw[decide_eq_true hxy.1,decide_eq_true hxy.2];clear hHC hHD;go_wp2;go_quiet (fail);go_wp2;go_ret3;exact⟨ret3 (by rw[HSI.out]),below_drewN k3 _⟩
     ·rw[if_neg hxy] at HSI;obtain⟨p1,hp1⟩:∃ p,p=decide ((X:Int)∈A):=⟨_,rfl⟩
      obtain⟨p2,hp2⟩:∃ p,p=decide ((Y:Int)∈B):=⟨_,rfl⟩
      have hpp:(p1&&p2)=false:=by
       rw[hp1,hp2]
       cases h1:decide ((X:Int)∈A) with
       | false => rfl
       | true =>
        cases h2:decide ((Y:Int)∈B) with
        | false => rfl
        | true => exact absurd ⟨of_decide_eq_true h1,of_decide_eq_true h2⟩ hxy
      rw[<- hp1,<- hp2];clear hp1 hp2 hxy;obtain⟨p3,hp3⟩:∃ p,p=decide ((Y:Int)∈A):=⟨_,rfl⟩
      obtain⟨p4,hp4⟩:∃ p,p=decide ((X:Int)∈B):=⟨_,rfl⟩
      rw[<- hp3] at hHC HSI;rw[<- hp4] at hHD HSI;clear hp3 hp4;have fin:∀ (p1 p2:Bool),(p1&&p2)=false->p1=true->p2=false:=fun p1 p2 h e=>by rw[e] at h; simpa using h
      cases p1 with
      | false =>
       clear hpp fin;go_wp2_with fail;refine hHC.mono ?_;rintro e w6 ⟨rfl,rfl⟩;clear hHC;go_wp2_with fail;refine hHD.mono ?_;rintro e w7 ⟨rfl,rfl⟩;clear hHD
       cases p3 with
       | false =>
        go_wp2;go_quiet (fail);go_wp2;go_ret3;exact⟨ret3 (by rw[HSI.out]; rfl),below_drewN k3 _⟩
       | true =>
        go_wp2;go_quiet (fail);go_wp2;go_ret3;exact⟨ret3 (by rw[HSI.out]; rfl),below_drewN k3 _⟩
      | true =>
       have hp2:p2=false:=fin _ _ hpp rfl;subst hp2;clear hpp fin;go_wp2_with fail;refine hHC.mono ?_;rintro e w6 ⟨rfl,rfl⟩;clear hHC;go_wp2_with fail;refine hHD.mono ?_;rintro e w7 ⟨rfl,rfl⟩;clear hHD
       cases p3 with
       | false =>
        go_wp2;go_quiet (fail);go_wp2;go_ret3;exact⟨ret3 (by rw[HSI.out]; rfl),below_drewN k3 _⟩
       | true =>
        go_wp2;go_quiet (fail);go_wp2;go_ret3;exact⟨ret3 (by rw[HSI.out]; rfl),below_drewN k3 _⟩
    ·have b0:(op != 0)=true:=by simp[o0]
     rw[if_pos (.inr (.inr (.inr o0)))] at HSI;go_enter Tryz.func161,Tryz.ntmps161;go_wp2;go_ret3;exact⟨ret3 (by rw[HSI.out]),hk1⟩
 ·rw[if_pos (.inl hone)] at HSI;have b1:((cs.length:Int) != 1)=true:=by simp; omega
  clear hcs HSO;generalize cs.length=cn at *;go_enter Tryz.func161,Tryz.ntmps161;go_wp2;go_ret3;exact⟨ret3 (by rw[HSI.out]),hk1⟩
end Go.Proofs.YtlpbelhfpoilpaaGreatDoor
namespace Go.Scout
open Go.RowKit
theorem arity1 (k:Int):1<=arity k↔k≠1:=by
 unfold arity;split
 ·omega
 ·split <;> omega
theorem arity2 (k:Int):2<=arity k↔3<=k/\k<=5:=by
 unfold arity;split
 ·omega
 ·split <;> omega
theorem plain_P (n:NodeV):plainB n=decide ((n.kind≠1∨n.l=0)/\((3<=n.kind/\n.kind<=5)∨n.r=0)/\(n.kind=1∨n.source=0)/\(n.kind=4∨n.kind=5∨n.key=0)/\
  (n.kind=2∨3<=n.kind/\n.kind<=5∨n.cl.xs.length=0)/\(n.kind=6↔n.co.xs.length≠0)):=by
 unfold plainB;simp only[arity1,arity2]
end Go.Scout
namespace Go.Proofs.YtlpbelhfpoilpaaGreatDoor
open Go.RowKit Go.Scout
theorem plain_any (n:NodeV) (w:World):Calls Tryz.prog 93 #[.agg n.cells] w fun e w'=>e=.returned (.bool (plainB n))/\Below w.heap.size w w':=by
 have HP:Hid _:=plain_P n;obtain⟨P,hP⟩:∃ P,P=plainB n:=⟨_,rfl⟩
 rw[<- hP] at HP ⊢;clear hP;obtain⟨kind,l,r,source,⟨ca,cc,cx⟩,key,⟨oa,oc,ox⟩⟩:=n;unfold NodeV.cells IntsV.val;simp only at HP ⊢;generalize cx.length=a at *;generalize ox.length=b at *;by_cases k1:kind=1
 ·subst k1;by_cases h_l:l=0
  ·have hz_l:(l==0)=true:=by simp[h_l]
   have hn_l:(l != 0)=false:=by simp[h_l]
   by_cases h_r:r=0
   ·have hz_r:(r==0)=true:=by simp[h_r]
    have hn_r:(r != 0)=false:=by simp[h_r]
    by_cases h_key:key=0
    ·have hz_key:(key==0)=true:=by simp[h_key]
     have hn_key:(key != 0)=false:=by simp[h_key]
     by_cases h_a:a=0
     ·have hz_a:((a:Int)==0)=true:=by simp[h_a]
      by_cases h_b:b=0
      ·have hz_b:((b:Int)==0)=true:=by simp[h_b]
       go_enter Tryz.func93,Tryz.ntmps93;go_wp2;go_ret;exact⟨ret_bool (by rw[HP.out]; symm; first | exact decide_eq_true (by omega) | exact decide_eq_false (by omega) | exact decide_eq_true (by simp <;> omega) | exact decide_eq_false (by simp <;> omega)),(Below.refl _ _).alloc (Nat.le_refl _) _⟩
      ·have hz_b:((b:Int)==0)=false:=by simp; omega
       go_enter Tryz.func93,Tryz.ntmps93;go_wp2;go_ret;exact⟨ret_bool (by rw[HP.out]; symm; first | exact decide_eq_true (by omega) | exact decide_eq_false (by omega) | exact decide_eq_true (by simp <;> omega) | exact decide_eq_false (by simp <;> omega)),(Below.refl _ _).alloc (Nat.le_refl _) _⟩
     ·have hz_a:((a:Int)==0)=false:=by simp; omega
      go_enter Tryz.func93,Tryz.ntmps93;go_wp2;go_ret;exact⟨ret_bool (by rw[HP.out]; symm; first | exact decide_eq_true (by omega) | exact decide_eq_false (by omega) | exact decide_eq_true (by simp <;> omega) | exact decide_eq_false (by simp <;> omega)),(Below.refl _ _).alloc (Nat.le_refl _) _⟩
    ·have hz_key:(key==0)=false:=by simp[h_key]
     have hn_key:(key != 0)=true:=by simp[h_key]
     go_enter Tryz.func93,Tryz.ntmps93;go_wp2;go_ret;exact⟨ret_bool (by rw[HP.out]; symm; first | exact decide_eq_true (by omega) | exact decide_eq_false (by omega) | exact decide_eq_true (by simp <;> omega) | exact decide_eq_false (by simp <;> omega)),(Below.refl _ _).alloc (Nat.le_refl _) _⟩
   ·have hz_r:(r==0)=false:=by simp[h_r]
    have hn_r:(r != 0)=true:=by simp[h_r]
    go_enter Tryz.func93,Tryz.ntmps93;go_wp2;go_ret;exact⟨ret_bool (by rw[HP.out]; symm; first | exact decide_eq_true (by omega) | exact decide_eq_false (by omega) | exact decide_eq_true (by simp <;> omega) | exact decide_eq_false (by simp <;> omega)),(Below.refl _ _).alloc (Nat.le_refl _) _⟩
  ·have hz_l:(l==0)=false:=by simp[h_l]
   have hn_l:(l != 0)=true:=by simp[h_l]
   go_enter Tryz.func93,Tryz.ntmps93;go_wp2;go_ret;exact⟨ret_bool (by rw[HP.out]; symm; first | exact decide_eq_true (by omega) | exact decide_eq_false (by omega) | exact decide_eq_true (by simp <;> omega) | exact decide_eq_false (by simp <;> omega)),(Below.refl _ _).alloc (Nat.le_refl _) _⟩
 have kb1:(kind==1)=false:=by simp[k1]
 by_cases k2:kind=2
 ·subst k2;clear k1 kb1;by_cases h_source:source=0
  ·have hz_source:(source==0)=true:=by simp[h_source]
   have hn_source:(source != 0)=false:=by simp[h_source]
   by_cases h_r:r=0
   ·have hz_r:(r==0)=true:=by simp[h_r]
    have hn_r:(r != 0)=false:=by simp[h_r]
    by_cases h_key:key=0
    ·have hz_key:(key==0)=true:=by simp[h_key]
     have hn_key:(key != 0)=false:=by simp[h_key]
     by_cases h_b:b=0
     ·have hz_b:((b:Int)==0)=true:=by simp[h_b]
      by_cases h_a:a=0
      ·have hz_a:((a:Int)==0)=true:=by simp[h_a]
       go_enter Tryz.func93,Tryz.ntmps93;go_wp2;go_ret;exact⟨ret_bool (by rw[HP.out]; symm; first | exact decide_eq_true (by omega) | exact decide_eq_false (by omega) | exact decide_eq_true (by simp <;> omega) | exact decide_eq_false (by simp <;> omega)),(Below.refl _ _).alloc (Nat.le_refl _) _⟩
      ·have hz_a:((a:Int)==0)=false:=by simp; omega
       go_enter Tryz.func93,Tryz.ntmps93;go_wp2;go_ret;exact⟨ret_bool (by rw[HP.out]; symm; first | exact decide_eq_true (by omega) | exact decide_eq_false (by omega) | exact decide_eq_true (by simp <;> omega) | exact decide_eq_false (by simp <;> omega)),(Below.refl _ _).alloc (Nat.le_refl _) _⟩
     ·have hz_b:((b:Int)==0)=false:=by simp; omega
      go_enter Tryz.func93,Tryz.ntmps93;go_wp2;go_ret;exact⟨ret_bool (by rw[HP.out]; symm; first | exact decide_eq_true (by omega) | exact decide_eq_false (by omega) | exact decide_eq_true (by simp <;> omega) | exact decide_eq_false (by simp <;> omega)),(Below.refl _ _).alloc (Nat.le_refl _) _⟩
    ·have hz_key:(key==0)=false:=by simp[h_key]
     have hn_key:(key != 0)=true:=by simp[h_key]
     go_enter Tryz.func93,Tryz.ntmps93;go_wp2;go_ret;exact⟨ret_bool (by rw[HP.out]; symm; first | exact decide_eq_true (by omega) | exact decide_eq_false (by omega) | exact decide_eq_true (by simp <;> omega) | exact decide_eq_false (by simp <;> omega)),(Below.refl _ _).alloc (Nat.le_refl _) _⟩
   ·have hz_r:(r==0)=false:=by simp[h_r]
    have hn_r:(r != 0)=true:=by simp[h_r]
    go_enter Tryz.func93,Tryz.ntmps93;go_wp2;go_ret;exact⟨ret_bool (by rw[HP.out]; symm; first | exact decide_eq_true (by omega) | exact decide_eq_false (by omega) | exact decide_eq_true (by simp <;> omega) | exact decide_eq_false (by simp <;> omega)),(Below.refl _ _).alloc (Nat.le_refl _) _⟩
  ·have hz_source:(source==0)=false:=by simp[h_source]
   have hn_source:(source != 0)=true:=by simp[h_source]
   go_enter Tryz.func93,Tryz.ntmps93;go_wp2;go_ret;exact⟨ret_bool (by rw[HP.out]; symm; first | exact decide_eq_true (by omega) | exact decide_eq_false (by omega) | exact decide_eq_true (by simp <;> omega) | exact decide_eq_false (by simp <;> omega)),(Below.refl _ _).alloc (Nat.le_refl _) _⟩
 by_cases k3:kind=3
 ·subst k3;clear k1 k2 kb1;by_cases h_source:source=0
  ·have hz_source:(source==0)=true:=by simp[h_source]
   have hn_source:(source != 0)=false:=by simp[h_source]
   by_cases h_key:key=0
   ·have hz_key:(key==0)=true:=by simp[h_key]
    have hn_key:(key != 0)=false:=by simp[h_key]
    by_cases h_b:b=0
    ·have hz_b:((b:Int)==0)=true:=by simp[h_b]
     by_cases h_a:a=0
     ·have hz_a:((a:Int)==0)=true:=by simp[h_a]
      go_enter Tryz.func93,Tryz.ntmps93;go_wp2;go_ret;exact⟨ret_bool (by rw[HP.out]; symm; first | exact decide_eq_true (by omega) | exact decide_eq_false (by omega) | exact decide_eq_true (by simp <;> omega) | exact decide_eq_false (by simp <;> omega)),(Below.refl _ _).alloc (Nat.le_refl _) _⟩
     ·have hz_a:((a:Int)==0)=false:=by simp; omega
      go_enter Tryz.func93,Tryz.ntmps93;go_wp2;go_ret;exact⟨ret_bool (by rw[HP.out]; symm; first | exact decide_eq_true (by omega) | exact decide_eq_false (by omega) | exact decide_eq_true (by simp <;> omega) | exact decide_eq_false (by simp <;> omega)),(Below.refl _ _).alloc (Nat.le_refl _) _⟩
    ·have hz_b:((b:Int)==0)=false:=by simp; omega
     go_enter Tryz.func93,Tryz.ntmps93;go_wp2;go_ret;exact⟨ret_bool (by rw[HP.out]; symm; first | exact decide_eq_true (by omega) | exact decide_eq_false (by omega) | exact decide_eq_true (by simp <;> omega) | exact decide_eq_false (by simp <;> omega)),(Below.refl _ _).alloc (Nat.le_refl _) _⟩
   ·have hz_key:(key==0)=false:=by simp[h_key]
    have hn_key:(key != 0)=true:=by simp[h_key]
    go_enter Tryz.func93,Tryz.ntmps93;go_wp2;go_ret;exact⟨ret_bool (by rw[HP.out]; symm; first | exact decide_eq_true (by omega) | exact decide_eq_false (by omega) | exact decide_eq_true (by simp <;> omega) | exact decide_eq_false (by simp <;> omega)),(Below.refl _ _).alloc (Nat.le_refl _) _⟩
  ·have hz_source:(source==0)=false:=by simp[h_source]
   have hn_source:(source != 0)=true:=by simp[h_source]
   go_enter Tryz.func93,Tryz.ntmps93;go_wp2;go_ret;exact⟨ret_bool (by rw[HP.out]; symm; first | exact decide_eq_true (by omega) | exact decide_eq_false (by omega) | exact decide_eq_true (by simp <;> omega) | exact decide_eq_false (by simp <;> omega)),(Below.refl _ _).alloc (Nat.le_refl _) _⟩
 by_cases k4:kind=4
 ·subst k4;clear kb1;by_cases h_source:source=0
  ·have hz_source:(source==0)=true:=by simp[h_source]
   have hn_source:(source != 0)=false:=by simp[h_source]
   by_cases h_b:b=0
   ·have hz_b:((b:Int)==0)=true:=by simp[h_b]
    by_cases h_a:a=0
    ·have hz_a:((a:Int)==0)=true:=by simp[h_a]
     go_enter Tryz.func93,Tryz.ntmps93;go_wp2;go_ret;exact⟨ret_bool (by rw[HP.out]; symm; first | exact decide_eq_true (by omega) | exact decide_eq_false (by omega) | exact decide_eq_true (by simp <;> omega) | exact decide_eq_false (by simp <;> omega)),(Below.refl _ _).alloc (Nat.le_refl _) _⟩
    ·have hz_a:((a:Int)==0)=false:=by simp; omega
     go_enter Tryz.func93,Tryz.ntmps93;go_wp2;go_ret;exact⟨ret_bool (by rw[HP.out]; symm; first | exact decide_eq_true (by omega) | exact decide_eq_false (by omega) | exact decide_eq_true (by simp <;> omega) | exact decide_eq_false (by simp <;> omega)),(Below.refl _ _).alloc (Nat.le_refl _) _⟩
   ·have hz_b:((b:Int)==0)=false:=by simp; omega
    go_enter Tryz.func93,Tryz.ntmps93;go_wp2;go_ret;exact⟨ret_bool (by rw[HP.out]; symm; first | exact decide_eq_true (by omega) | exact decide_eq_false (by omega) | exact decide_eq_true (by simp <;> omega) | exact decide_eq_false (by simp <;> omega)),(Below.refl _ _).alloc (Nat.le_refl _) _⟩
  ·have hz_source:(source==0)=false:=by simp[h_source]
   have hn_source:(source != 0)=true:=by simp[h_source]
   go_enter Tryz.func93,Tryz.ntmps93;go_wp2;go_ret;exact⟨ret_bool (by rw[HP.out]; symm; first | exact decide_eq_true (by omega) | exact decide_eq_false (by omega) | exact decide_eq_true (by simp <;> omega) | exact decide_eq_false (by simp <;> omega)),(Below.refl _ _).alloc (Nat.le_refl _) _⟩
 by_cases k5:kind=5
 ·subst k5;clear kb1;by_cases h_source:source=0
  ·have hz_source:(source==0)=true:=by simp[h_source]
   have hn_source:(source != 0)=false:=by simp[h_source]
   by_cases h_b:b=0
   ·have hz_b:((b:Int)==0)=true:=by simp[h_b]
    by_cases h_a:a=0
    ·have hz_a:((a:Int)==0)=true:=by simp[h_a]
     go_enter Tryz.func93,Tryz.ntmps93;go_wp2;go_ret;exact⟨ret_bool (by rw[HP.out]; symm; first | exact decide_eq_true (by omega) | exact decide_eq_false (by omega) | exact decide_eq_true (by simp <;> omega) | exact decide_eq_false (by simp <;> omega)),(Below.refl _ _).alloc (Nat.le_refl _) _⟩
    ·have hz_a:((a:Int)==0)=false:=by simp; omega
     go_enter Tryz.func93,Tryz.ntmps93;go_wp2;go_ret;exact⟨ret_bool (by rw[HP.out]; symm; first | exact decide_eq_true (by omega) | exact decide_eq_false (by omega) | exact decide_eq_true (by simp <;> omega) | exact decide_eq_false (by simp <;> omega)),(Below.refl _ _).alloc (Nat.le_refl _) _⟩
   ·have hz_b:((b:Int)==0)=false:=by simp; omega
    go_enter Tryz.func93,Tryz.ntmps93;go_wp2;go_ret;exact⟨ret_bool (by rw[HP.out]; symm; first | exact decide_eq_true (by omega) | exact decide_eq_false (by omega) | exact decide_eq_true (by simp <;> omega) | exact decide_eq_false (by simp <;> omega)),(Below.refl _ _).alloc (Nat.le_refl _) _⟩
  ·have hz_source:(source==0)=false:=by simp[h_source]
   have hn_source:(source != 0)=true:=by simp[h_source]
   go_enter Tryz.func93,Tryz.ntmps93;go_wp2;go_ret;exact⟨ret_bool (by rw[HP.out]; symm; first | exact decide_eq_true (by omega) | exact decide_eq_false (by omega) | exact decide_eq_true (by simp <;> omega) | exact decide_eq_false (by simp <;> omega)),(Below.refl _ _).alloc (Nat.le_refl _) _⟩
 by_cases k6:kind=6
 ·subst k6;clear kb1;by_cases h_source:source=0
  ·have hz_source:(source==0)=true:=by simp[h_source]
   have hn_source:(source != 0)=false:=by simp[h_source]
   by_cases h_r:r=0
   ·have hz_r:(r==0)=true:=by simp[h_r]
    have hn_r:(r != 0)=false:=by simp[h_r]
    by_cases h_key:key=0
    ·have hz_key:(key==0)=true:=by simp[h_key]
     have hn_key:(key != 0)=false:=by simp[h_key]
     by_cases h_b:b=0
     ·have hz_b:((b:Int)==0)=true:=by simp[h_b]
      go_enter Tryz.func93,Tryz.ntmps93;go_wp2;go_ret;exact⟨ret_bool (by rw[HP.out]; symm; first | exact decide_eq_true (by omega) | exact decide_eq_false (by omega) | exact decide_eq_true (by simp <;> omega) | exact decide_eq_false (by simp <;> omega)),(Below.refl _ _).alloc (Nat.le_refl _) _⟩
     ·have hz_b:((b:Int)==0)=false:=by simp; omega
      by_cases h_a:a=0
      ·have hz_a:((a:Int)==0)=true:=by simp[h_a]
       go_enter Tryz.func93,Tryz.ntmps93;go_wp2;go_ret;exact⟨ret_bool (by rw[HP.out]; symm; first | exact decide_eq_true (by omega) | exact decide_eq_false (by omega) | exact decide_eq_true (by simp <;> omega) | exact decide_eq_false (by simp <;> omega)),(Below.refl _ _).alloc (Nat.le_refl _) _⟩
      ·have hz_a:((a:Int)==0)=false:=by simp; omega
       go_enter Tryz.func93,Tryz.ntmps93;go_wp2;go_ret;exact⟨ret_bool (by rw[HP.out]; symm; first | exact decide_eq_true (by omega) | exact decide_eq_false (by omega) | exact decide_eq_true (by simp <;> omega) | exact decide_eq_false (by simp <;> omega)),(Below.refl _ _).alloc (Nat.le_refl _) _⟩
    ·have hz_key:(key==0)=false:=by simp[h_key]
     have hn_key:(key != 0)=true:=by simp[h_key]
     go_enter Tryz.func93,Tryz.ntmps93;go_wp2;go_ret;exact⟨ret_bool (by rw[HP.out]; symm; first | exact decide_eq_true (by omega) | exact decide_eq_false (by omega) | exact decide_eq_true (by simp <;> omega) | exact decide_eq_false (by simp <;> omega)),(Below.refl _ _).alloc (Nat.le_refl _) _⟩
   ·have hz_r:(r==0)=false:=by simp[h_r]
    have hn_r:(r != 0)=true:=by simp[h_r]
    go_enter Tryz.func93,Tryz.ntmps93;go_wp2;go_ret;exact⟨ret_bool (by rw[HP.out]; symm; first | exact decide_eq_true (by omega) | exact decide_eq_false (by omega) | exact decide_eq_true (by simp <;> omega) | exact decide_eq_false (by simp <;> omega)),(Below.refl _ _).alloc (Nat.le_refl _) _⟩
  ·have hz_source:(source==0)=false:=by simp[h_source]
   have hn_source:(source != 0)=true:=by simp[h_source]
   go_enter Tryz.func93,Tryz.ntmps93;go_wp2;go_ret;exact⟨ret_bool (by rw[HP.out]; symm; first | exact decide_eq_true (by omega) | exact decide_eq_false (by omega) | exact decide_eq_true (by simp <;> omega) | exact decide_eq_false (by simp <;> omega)),(Below.refl _ _).alloc (Nat.le_refl _) _⟩
 have kb2:(kind==2)=false:=by simp[k2]
 have kb3:(kind==3)=false:=by simp[k3]
 have kb6:(kind != 6)=true:=by simp[k6]
 by_cases hk3:kind<3
 ·have hk3':¬ 3<=kind:=by omega
  by_cases h_source:source=0
  ·have hz_source:(source==0)=true:=by simp[h_source]
   have hn_source:(source != 0)=false:=by simp[h_source]
   by_cases h_r:r=0
   ·have hz_r:(r==0)=true:=by simp[h_r]
    have hn_r:(r != 0)=false:=by simp[h_r]
    by_cases h_key:key=0
    ·have hz_key:(key==0)=true:=by simp[h_key]
     have hn_key:(key != 0)=false:=by simp[h_key]
     by_cases h_b:b=0
     ·have hz_b:((b:Int)==0)=true:=by simp[h_b]
      by_cases h_a:a=0
      ·have hz_a:((a:Int)==0)=true:=by simp[h_a]
       go_enter Tryz.func93,Tryz.ntmps93;go_wp2;go_ret;exact⟨ret_bool (by rw[HP.out]; symm; first | exact decide_eq_true (by omega) | exact decide_eq_false (by omega) | exact decide_eq_true (by simp <;> omega) | exact decide_eq_false (by simp <;> omega)),(Below.refl _ _).alloc (Nat.le_refl _) _⟩
      ·have hz_a:((a:Int)==0)=false:=by simp; omega
       go_enter Tryz.func93,Tryz.ntmps93;go_wp2;go_ret;exact⟨ret_bool (by rw[HP.out]; symm; first | exact decide_eq_true (by omega) | exact decide_eq_false (by omega) | exact decide_eq_true (by simp <;> omega) | exact decide_eq_false (by simp <;> omega)),(Below.refl _ _).alloc (Nat.le_refl _) _⟩
     ·have hz_b:((b:Int)==0)=false:=by simp; omega
      go_enter Tryz.func93,Tryz.ntmps93;go_wp2;go_ret;exact⟨ret_bool (by rw[HP.out]; symm; first | exact decide_eq_true (by omega) | exact decide_eq_false (by omega) | exact decide_eq_true (by simp <;> omega) | exact decide_eq_false (by simp <;> omega)),(Below.refl _ _).alloc (Nat.le_refl _) _⟩
    ·have hz_key:(key==0)=false:=by simp[h_key]
     have hn_key:(key != 0)=true:=by simp[h_key]
     go_enter Tryz.func93,Tryz.ntmps93;go_wp2;go_ret;exact⟨ret_bool (by rw[HP.out]; symm; first | exact decide_eq_true (by omega) | exact decide_eq_false (by omega) | exact decide_eq_true (by simp <;> omega) | exact decide_eq_false (by simp <;> omega)),(Below.refl _ _).alloc (Nat.le_refl _) _⟩
   ·have hz_r:(r==0)=false:=by simp[h_r]
    have hn_r:(r != 0)=true:=by simp[h_r]
    go_enter Tryz.func93,Tryz.ntmps93;go_wp2;go_ret;exact⟨ret_bool (by rw[HP.out]; symm; first | exact decide_eq_true (by omega) | exact decide_eq_false (by omega) | exact decide_eq_true (by simp <;> omega) | exact decide_eq_false (by simp <;> omega)),(Below.refl _ _).alloc (Nat.le_refl _) _⟩
  ·have hz_source:(source==0)=false:=by simp[h_source]
   have hn_source:(source != 0)=true:=by simp[h_source]
   go_enter Tryz.func93,Tryz.ntmps93;go_wp2;go_ret;exact⟨ret_bool (by rw[HP.out]; symm; first | exact decide_eq_true (by omega) | exact decide_eq_false (by omega) | exact decide_eq_true (by simp <;> omega) | exact decide_eq_false (by simp <;> omega)),(Below.refl _ _).alloc (Nat.le_refl _) _⟩
 ·have hk3':3<=kind:=by omega
  have hk5:¬ kind<=5:=by omega
  by_cases h_source:source=0
  ·have hz_source:(source==0)=true:=by simp[h_source]
   have hn_source:(source != 0)=false:=by simp[h_source]
   by_cases h_r:r=0
   ·have hz_r:(r==0)=true:=by simp[h_r]
    have hn_r:(r != 0)=false:=by simp[h_r]
    by_cases h_key:key=0
    ·have hz_key:(key==0)=true:=by simp[h_key]
     have hn_key:(key != 0)=false:=by simp[h_key]
     by_cases h_b:b=0
     ·have hz_b:((b:Int)==0)=true:=by simp[h_b]
      by_cases h_a:a=0
      ·have hz_a:((a:Int)==0)=true:=by simp[h_a]
       go_enter Tryz.func93,Tryz.ntmps93;go_wp2;go_ret;exact⟨ret_bool (by rw[HP.out]; symm; first | exact decide_eq_true (by omega) | exact decide_eq_false (by omega) | exact decide_eq_true (by simp <;> omega) | exact decide_eq_false (by simp <;> omega)),(Below.refl _ _).alloc (Nat.le_refl _) _⟩
      ·have hz_a:((a:Int)==0)=false:=by simp; omega
       go_enter Tryz.func93,Tryz.ntmps93;go_wp2;go_ret;exact⟨ret_bool (by rw[HP.out]; symm; first | exact decide_eq_true (by omega) | exact decide_eq_false (by omega) | exact decide_eq_true (by simp <;> omega) | exact decide_eq_false (by simp <;> omega)),(Below.refl _ _).alloc (Nat.le_refl _) _⟩
     ·have hz_b:((b:Int)==0)=false:=by simp; omega
      go_enter Tryz.func93,Tryz.ntmps93;go_wp2;go_ret;exact⟨ret_bool (by rw[HP.out]; symm; first | exact decide_eq_true (by omega) | exact decide_eq_false (by omega) | exact decide_eq_true (by simp <;> omega) | exact decide_eq_false (by simp <;> omega)),(Below.refl _ _).alloc (Nat.le_refl _) _⟩
    ·have hz_key:(key==0)=false:=by simp[h_key]
     have hn_key:(key != 0)=true:=by simp[h_key]
     go_enter Tryz.func93,Tryz.ntmps93;go_wp2;go_ret;exact⟨ret_bool (by rw[HP.out]; symm; first | exact decide_eq_true (by omega) | exact decide_eq_false (by omega) | exact decide_eq_true (by simp <;> omega) | exact decide_eq_false (by simp <;> omega)),(Below.refl _ _).alloc (Nat.le_refl _) _⟩
   ·have hz_r:(r==0)=false:=by simp[h_r]
    have hn_r:(r != 0)=true:=by simp[h_r]
    go_enter Tryz.func93,Tryz.ntmps93;go_wp2;go_ret;exact⟨ret_bool (by rw[HP.out]; symm; first | exact decide_eq_true (by omega) | exact decide_eq_false (by omega) | exact decide_eq_true (by simp <;> omega) | exact decide_eq_false (by simp <;> omega)),(Below.refl _ _).alloc (Nat.le_refl _) _⟩
  ·have hz_source:(source==0)=false:=by simp[h_source]
   have hn_source:(source != 0)=true:=by simp[h_source]
   go_enter Tryz.func93,Tryz.ntmps93;go_wp2;go_ret;exact⟨ret_bool (by rw[HP.out]; symm; first | exact decide_eq_true (by omega) | exact decide_eq_false (by omega) | exact decide_eq_true (by simp <;> omega) | exact decide_eq_false (by simp <;> omega)),(Below.refl _ _).alloc (Nat.le_refl _) _⟩
end Go.Proofs.YtlpbelhfpoilpaaGreatDoor
namespace Go.Scout
open Go.RowKit
structure TreeC (w:World) (b:Nat) (ao:Option Addr) (cap:Nat) (ts:List TableD) (q:QueryV):Prop where
 c0:w.cell? (aD b 0)=some (.slice ao ts.length cap)
 c1:w.cell? (aD b 1)=some q.src.val
 c2:w.cell? (aD b 2)=some (.slice q.wad q.wh.length q.wcap)
 c3:w.cell? (aD b 3)=some (.bool q.group)
 c4:w.cell? (aD b 4)=some q.keys.val
 c5:w.cell? (aD b 5)=some q.sums.val
 c6:w.cell? (aD b 6)=some q.sel.val
 c7:w.cell? (aD b 7)=some q.ord.val
structure Chk (ts:List TableD) (q:QueryV):Prop where
 cat:catB ts=true
 src:allB q.src.xs ts.length=true
 five:q.src.xs.length<=5
 eight:q.wh.length<=8
 cols:ClausesOk ts q
 some:∀ i,i<q.wh.length->0<(q.wh.getD i lz).cs.length
 three:∀ i,i<q.wh.length->(q.wh.getD i lz).cs.length<=3
theorem Chk.ok {ts:List TableD} {q:QueryV} (h:Chk ts q):Ok ts q:=⟨h.cat,h.src,by have:=h.five; omega,by have:=h.eight; omega,h.cols,h.some⟩
def listedAt (ts:List TableD) (q:QueryV) (l sources:List Int) (i:Nat):Bool:=decide (0<=l.getD i 0)&&decide (l.getD i 0<q.wh.length)&&(decide (i=0) || decide (l.getD (i-1) 0<l.getD i 0))&&withinB ts q.src.xs (q.wh.getD (l.getD i 0).toNat lz).cs sources
theorem range_all_false {n:Nat} {p:Nat->Bool} {i:Nat} (hi:i<n) (h:p i=false):false=(List.range n).all p:=by
 symm;rw[List.all_eq_false];exact⟨i,List.mem_range.2 hi,by rw[h]; simp⟩
theorem range_all_true {n:Nat} {p:Nat->Bool} (h:∀ i,i<n->p i=true):true=(List.range n).all p:=by
 symm;rw[List.all_eq_true];exact fun i hi=>h i (List.mem_range.1 hi)
end Go.Scout
namespace Go.Proofs.YtlpbelhfpoilpaaGreatDoor
open Go.RowKit Go.Scout
theorem listed_any (b:Nat) (ao lo so:Option Addr) (cap lcap' scap':Nat) (ts:List TableD) (q:QueryV) (l ss:List Int) (w:World) (ht:TreeC w b ao cap ts q) (hx:TablesAt w ao ts) (hk:Chk ts q) (hq:q.At w) (hll:IntsAt w lo l) (hss:IntsAt w so ss) :
  Calls Tryz.prog 98 #[.pointer (some (aD b 0)),.slice lo l.length lcap',.slice so ss.length scap'] w fun e w'=>e=.returned (.bool (listedB ts q l ss))/\Below w.heap.size w w':=by
 have HWI:Hid (∀ k:Nat,k<q.wh.length->∀ x,Below w.heap.size w x->Calls Tryz.prog 160 #[.slice ao ts.length cap,.agg q.cells,.int .i64 k,.slice so ss.length scap'] x fun e w'=>e=.returned (.bool (withinB ts q.src.xs (q.wh.getD k lz).cs ss))/\Below x.heap.size x w'):=fun k hk' x hb=>
  within_any ao so cap scap' ts q k ss x (hx.below hb) hk.cat (hq.below hb) hk.five hk.src hk' (hk.cols k hk') (hk.three k hk') (IntsAt.below hb hss)
 have HLI:Hid (listedB ts q l ss=(List.range l.length).all (listedAt ts q l ss)):=rfl;have HAT:Hid (∀ i,listedAt ts q l ss i=(decide (0<=l.getD i 0)&&decide (l.getD i 0<q.wh.length)&&(decide (i=0) || decide (l.getD (i-1) 0<l.getD i 0))&&withinB ts q.src.xs (q.wh.getD (l.getD i 0).toNat lz).cs ss)):=fun _=>rfl
 generalize listedAt ts q l ss=LA at *;generalize listedB ts q l ss=LB at *;have hwl:=hq.wh.1;have hl1:=hll.1;have hsl:=hss.1;have HLL:Hid _:=hll;obtain⟨t0,t1,t2,t3,t4,t5,t6,t7⟩:=ht;clear hx hk hq hll hss;obtain⟨⟨sad,scap,xs⟩,wad,wcap,wh,group,⟨kad,kcap,kxs⟩,⟨uad,ucap,uxs⟩,⟨lad,lcap,lxs⟩,⟨oad,ocap,oxs⟩⟩:=q;unfold QueryV.cells IntsV.val at *;simp only at *;go_enter Tryz.func98,Tryz.ntmps98;go_wp2;go_loopw [7] (fun iv wr=>∃ i:Nat,i<=l.length/\iv=.int .i64 i/\Hid (∀ j,j<i->LA j=true)/\Below w.heap.size w wr) (fun iv _=>l.length-(intOf iv).toNat)
 case atStart=>exact⟨0,Nat.zero_le _,rfl,fun j hj=>absurd hj (by omega),Below.refl _ _⟩
 case round=>
  obtain⟨i,hi,rfl,HA,hbr⟩:=hrel;by_cases hlt:i<l.length
  ·obtain⟨lb,lof,rfl,hlc⟩:=IntsAt.get HLL.out hlt;have hci:=cB hbr (hlc i hlt);have u2:=cB hbr t2;have hat:=HAT.out i;have HBAD:Hid (LA i=false->LB=false):=fun e=>by rw[HLI.out]; exact (range_all_false hlt e).symm
   by_cases n0:l.getD i 0<0
   ·have hf:LA i=false:=by rw[hat,decide_eq_false (by omega)]; rfl
    have HF:Hid _:=HBAD.out hf;clear hf hat HBAD HAT HLI HWI hlc;generalize l.getD i 0=x at *;go_wp2;go_quiet (fail);go_wp2;go_ret;exact⟨ret_bool HF.out.symm,below_drewN hbr _⟩
   by_cases n1:(wh.length:Int)<=l.getD i 0
   ·have hf:LA i=false:=by rw[hat,decide_eq_false (show ¬ l.getD i 0<wh.length by omega),Bool.and_false]; rfl
    have HF:Hid _:=HBAD.out hf;clear hf hat HBAD HAT HLI HWI hlc;generalize l.getD i 0=x at *;go_wp2;refine wp_region_below (by kernel_rfl) (by kernel_rfl) ?_;go_big_quiet_want;refine⟨.slice (some (aD lb lof)) l.length lcap',fun x hx=>?_,?_⟩
    ·go_simp
    simp only[pA,sB,sC];go_big_quiet_on;go_big_quiet_want;refine⟨.int .i64 i,fun x hx=>?_,?_⟩
    ·go_simp
    simp only[pA,sB,sC];go_big_quiet_on;go_big_quiet_want;refine⟨.pointer (some (aD lb (lof+i))),fun x hx=>?_,?_⟩
    ·go_simp
    simp only[pA,sB,sC];go_big_quiet_on;go_big_quiet_want;refine⟨.int .i64 x,fun x hx=>?_,?_⟩
    ·have e0:=cB hx hci;go_simp
    simp only[pA,sB,sC];go_big_quiet_on;go_big_quiet_want;refine⟨.bool false,fun x hx=>?_,?_⟩
    ·go_simp
    simp only[pA,sB,sC];go_big_quiet_on;go_big_quiet_want;refine⟨.bool false,fun x hx=>?_,?_⟩
    ·go_simp
    simp only[pA,sB,sC];go_big_quiet_on;go_big_quiet_want;refine⟨.slice (some (aD lb lof)) l.length lcap',fun x hx=>?_,?_⟩
    ·go_simp
    simp only[pA,sB,sC];go_big_quiet_on;go_big_quiet_want;refine⟨.int .i64 i,fun x hx=>?_,?_⟩
    ·go_simp
    simp only[pA,sB,sC];go_big_quiet_on;go_big_quiet_want;refine⟨.pointer (some (aD lb (lof+i))),fun x hx=>?_,?_⟩
    ·go_simp
    simp only[pA,sB,sC];go_big_quiet_on;go_big_quiet_want;refine⟨.int .i64 x,fun x hx=>?_,?_⟩
    ·have e0:=cB hx hci;go_simp
    simp only[pA,sB,sC];go_big_quiet_on;go_big_quiet_want;refine⟨.pointer (some (aD b 0)),fun x hx=>?_,?_⟩
    ·go_simp
    simp only[pA,sB,sC];go_big_quiet_on;go_big_quiet_want;refine⟨.pointer (some (aD b 0)),fun x hx=>?_,?_⟩
    ·go_simp
    simp only[pA,sB,sC];go_big_quiet_on;go_big_quiet_want;refine⟨.pointer (some (aD b 1)),fun x hx=>?_,?_⟩
    ·go_simp
    simp only[pA,sB,sC];go_big_quiet_on;go_big_quiet_want;refine⟨.pointer (some (aD b 2)),fun x hx=>?_,?_⟩
    ·go_simp
    simp only[pA,sB,sC];go_big_quiet_on;go_big_quiet_want;refine⟨.slice wad wh.length wcap,fun x hx=>?_,?_⟩
    ·have e0:=cB hx u2;go_simp
    simp only[pA,sB,sC];go_big_quiet_on;go_big_quiet_want;refine⟨.int .i64 wh.length,fun x hx=>?_,?_⟩
    ·go_simp
    simp only[pA,sB,sC];go_big_quiet_on;go_big_quiet_want;refine⟨.bool true,fun x hx=>?_,?_⟩
    ·go_simp
    simp only[pA,sB,sC];go_big_quiet_on;go_big_quiet_want;refine⟨.bool true,fun x hx=>?_,?_⟩
    ·go_simp
    simp only[pA,sB,sC];go_big_quiet_on;go_big_quiet_want;refine⟨.bool true,fun x hx=>?_,?_⟩
    ·go_simp
    simp only[pA,sB,sC];go_big_quiet_on;go_big_quiet_skip
    try simp only[pA,sB,sC]
    go_big_quiet_skip
    try simp only[pA,sB,sC]
    go_big_quiet_skip
    try simp only[pA,sB,sC]
    go_big_quiet_skip
    try simp only[pA,sB,sC]
    go_big_quiet_skip
    try simp only[pA,sB,sC]
    go_big_quiet_skip
    try simp only[pA,sB,sC]
    go_big_quiet_skip
    try simp only[pA,sB,sC]
    go_big_quiet_skip
    try simp only[pA,sB,sC]
    go_big_quiet_skip
    try simp only[pA,sB,sC]
    go_big_quiet_skip
    try simp only[pA,sB,sC]
    go_big_quiet_skip
    try simp only[pA,sB,sC]
    go_big_quiet_skip
    try simp only[pA,sB,sC]
    go_big_quiet_skip
    try simp only[pA,sB,sC]
    go_big_quiet_skip
    try simp only[pA,sB,sC]
    go_big_quiet_want;refine⟨.bool true,fun x hx=>?_,?_⟩
    ·go_simp
    simp only[pA,sB,sC];go_big_quiet_on;refine wpQuiet_nil ?_;intro wz hbz;have kz:=bQ1 hbr hbz;go_wp2;go_ret;exact⟨ret_bool HF.out.symm,kz⟩
   have hci':∀ m:Nat,i=m+1->wr.cell? (aD lb (lof+m))=some (.int .i64 (l.getD m 0)):=fun m hm=>cB hbr (hlc m (by omega))
   obtain⟨k,hk⟩:∃ k:Nat,l.getD i 0=(k:Int):=⟨(l.getD i 0).toNat,by omega⟩
   rw[hk] at hat hci n0 n1;rw[Int.toNat_natCast] at hat;rw[decide_eq_true (show (0:Int)<=(k:Int) by omega),decide_eq_true (show (k:Int)<wh.length by omega)] at hat;have hkw:k<wh.length:=by omega
   have HPASS:Hid (∀ e:Bool,LA i=e->True):=fun _ _=>trivial
   by_cases i0:i=0
   ·subst i0;rw[Nat.add_zero] at hci;rw[decide_eq_true rfl] at hat;have HAT2:Hid (LA 0=withinB ts xs (wh.getD k lz).cs ss):=by
     show _=_
     rw[hat]; rfl
    have HC2:Hid _:=HWI.out k (by omega);clear hat HAT HWI hlc hci' HPASS HA;generalize withinB ts xs (wh.getD k lz).cs ss=wv at *;go_wp2;refine wp_region_below (by kernel_rfl) (by kernel_rfl) ?_;go_big_quiet_want;refine⟨.slice (some (aD lb lof)) l.length lcap',fun x hx=>?_,?_⟩
    ·go_simp
    simp only[pA,sB,sC];go_big_quiet_on;go_big_quiet_want;refine⟨.int .i64 0,fun x hx=>?_,?_⟩
    ·go_simp
    simp only[pA,sB,sC];go_big_quiet_on;go_big_quiet_want;refine⟨.pointer (some (aD lb lof)),fun x hx=>?_,?_⟩
    ·go_simp
    simp only[pA,sB,sC];go_big_quiet_on;go_big_quiet_want;refine⟨.int .i64 k,fun x hx=>?_,?_⟩
    ·have e0:=cB hx hci;go_simp
    simp only[pA,sB,sC];go_big_quiet_on;go_big_quiet_want;refine⟨.bool false,fun x hx=>?_,?_⟩
    ·go_simp
    simp only[pA,sB,sC];go_big_quiet_on;go_big_quiet_want;refine⟨.bool false,fun x hx=>?_,?_⟩
    ·go_simp
    simp only[pA,sB,sC];go_big_quiet_on;go_big_quiet_want;refine⟨.slice (some (aD lb lof)) l.length lcap',fun x hx=>?_,?_⟩
    ·go_simp
    simp only[pA,sB,sC];go_big_quiet_on;go_big_quiet_want;refine⟨.int .i64 0,fun x hx=>?_,?_⟩
    ·go_simp
    simp only[pA,sB,sC];go_big_quiet_on;go_big_quiet_want;refine⟨.pointer (some (aD lb lof)),fun x hx=>?_,?_⟩
    ·go_simp
    simp only[pA,sB,sC];go_big_quiet_on;go_big_quiet_want;refine⟨.int .i64 k,fun x hx=>?_,?_⟩
    ·have e0:=cB hx hci;go_simp
    simp only[pA,sB,sC];go_big_quiet_on;go_big_quiet_want;refine⟨.pointer (some (aD b 0)),fun x hx=>?_,?_⟩
    ·go_simp
    simp only[pA,sB,sC];go_big_quiet_on;go_big_quiet_want;refine⟨.pointer (some (aD b 0)),fun x hx=>?_,?_⟩
    ·go_simp
    simp only[pA,sB,sC];go_big_quiet_on;go_big_quiet_want;refine⟨.pointer (some (aD b 1)),fun x hx=>?_,?_⟩
    ·go_simp
    simp only[pA,sB,sC];go_big_quiet_on;go_big_quiet_want;refine⟨.pointer (some (aD b 2)),fun x hx=>?_,?_⟩
    ·go_simp
    simp only[pA,sB,sC];go_big_quiet_on;go_big_quiet_want;refine⟨.slice wad wh.length wcap,fun x hx=>?_,?_⟩
    ·have e0:=cB hx u2;go_simp
    simp only[pA,sB,sC];go_big_quiet_on;go_big_quiet_want;refine⟨.int .i64 wh.length,fun x hx=>?_,?_⟩
    ·go_simp
    simp only[pA,sB,sC];go_big_quiet_on;go_big_quiet_want;refine⟨.bool false,fun x hx=>?_,?_⟩
    ·go_simp
    simp only[pA,sB,sC];go_big_quiet_on;go_big_quiet_want;refine⟨.bool false,fun x hx=>?_,?_⟩
    ·go_simp
    simp only[pA,sB,sC];go_big_quiet_on;go_big_quiet_want;refine⟨.bool false,fun x hx=>?_,?_⟩
    ·go_simp
    simp only[pA,sB,sC];go_big_quiet_on;go_big_quiet_want;refine⟨.int .i64 0,fun x hx=>?_,?_⟩
    ·go_simp
    simp only[pA,sB,sC];go_big_quiet_on;go_big_quiet_want;refine⟨.bool false,fun x hx=>?_,?_⟩
    ·go_simp
    simp only[pA,sB,sC];go_big_quiet_on;go_big_quiet_want;refine⟨.bool false,fun x hx=>?_,?_⟩
    ·go_simp
    simp only[pA,sB,sC];go_big_quiet_on;go_big_quiet_skip
    try simp only[pA,sB,sC]
    go_big_quiet_skip
    try simp only[pA,sB,sC]
    go_big_quiet_skip
    try simp only[pA,sB,sC]
    go_big_quiet_skip
    try simp only[pA,sB,sC]
    go_big_quiet_skip
    try simp only[pA,sB,sC]
    go_big_quiet_skip
    try simp only[pA,sB,sC]
    go_big_quiet_skip
    try simp only[pA,sB,sC]
    go_big_quiet_skip
    try simp only[pA,sB,sC]
    go_big_quiet_skip
    try simp only[pA,sB,sC]
    go_big_quiet_skip
    try simp only[pA,sB,sC]
    go_big_quiet_want;refine⟨.bool false,fun x hx=>?_,?_⟩
    ·go_simp
    simp only[pA,sB,sC];go_big_quiet_on;go_big_quiet_want;refine⟨.bool false,fun x hx=>?_,?_⟩
    ·go_simp
    simp only[pA,sB,sC];go_big_quiet_on;refine wpQuiet_nil ?_;intro wy hbz;have hby:=bQ1 hbr hbz;have hciy:=cB hbz hci;clear hbz;go_wp2;refine wp_region_below (by kernel_rfl) (by kernel_rfl) ?_;go_big_quiet_want;refine⟨.pointer (some (aD b 0)),fun x hx=>?_,?_⟩
    ·go_simp
    simp only[pA,sB,sC];go_big_quiet_on;go_big_quiet_want;refine⟨.pointer (some (aD b 0)),fun x hx=>?_,?_⟩
    ·go_simp
    simp only[pA,sB,sC];go_big_quiet_on;go_big_quiet_want;refine⟨.pointer (some (aD b 0)),fun x hx=>?_,?_⟩
    ·go_simp
    simp only[pA,sB,sC];go_big_quiet_on;go_big_quiet_want;refine⟨.slice ao ts.length cap,fun x hx=>?_,?_⟩
    ·have e0:=cB (bQ1 hby hx) t0;go_simp
    simp only[pA,sB,sC];go_big_quiet_on;go_big_quiet_want;refine⟨.pointer (some (aD b 0)),fun x hx=>?_,?_⟩
    ·go_simp
    simp only[pA,sB,sC];go_big_quiet_on;go_big_quiet_want;refine⟨.pointer (some (aD b 0)),fun x hx=>?_,?_⟩
    ·go_simp
    simp only[pA,sB,sC];go_big_quiet_on;go_big_quiet_want;refine⟨.pointer (some (aD b 1)),fun x hx=>?_,?_⟩
    ·go_simp
    simp only[pA,sB,sC];go_big_quiet_on;go_big_quiet_want;refine⟨.agg #[.slice sad xs.length scap,.slice wad wh.length wcap,.bool group,.slice kad kxs.length kcap,.slice uad uxs.length ucap,.slice lad lxs.length lcap,.slice oad oxs.length ocap],fun x hx=>?_,?_⟩
    ·have e1:=cB (bQ1 hby hx) t1;have e2:=cB (bQ1 hby hx) t2;have e3:=cB (bQ1 hby hx) t3;have e4:=cB (bQ1 hby hx) t4;have e5:=cB (bQ1 hby hx) t5;have e6:=cB (bQ1 hby hx) t6;have e7:=cB (bQ1 hby hx) t7;go_simp
    simp only[pA,sB,sC];go_big_quiet_on;go_big_quiet_want;refine⟨.slice (some (aD lb lof)) l.length lcap',fun x hx=>?_,?_⟩
    ·go_simp
    simp only[pA,sB,sC];go_big_quiet_on;go_big_quiet_want;refine⟨.int .i64 0,fun x hx=>?_,?_⟩
    ·go_simp
    simp only[pA,sB,sC];go_big_quiet_on;go_big_quiet_want;refine⟨.pointer (some (aD lb lof)),fun x hx=>?_,?_⟩
    ·go_simp
    simp only[pA,sB,sC];go_big_quiet_on;go_big_quiet_want;refine⟨.int .i64 k,fun x hx=>?_,?_⟩
    ·have e0:=cB hx hciy;go_simp
    simp only[pA,sB,sC];go_big_quiet_on;go_big_quiet_want;refine⟨.slice so ss.length scap',fun x hx=>?_,?_⟩
    ·go_simp
    simp only[pA,sB,sC];go_big_quiet_on;go_big_quiet_want;refine⟨.bool wv,fun x hx=>?_,?_⟩
    ·have hC:=Calls.within hx (HC2.out x (bQ1 hby hx));go_simp
    simp only[pA,sB,sC];go_big_quiet_on;go_big_quiet_want;refine⟨.bool wv,fun x hx=>?_,?_⟩
    ·go_simp
    simp only[pA,sB,sC];go_big_quiet_on;refine wpQuiet_nil ?_;intro wz hbz;have kz:=bQ1 hby hbz;clear hbz hby HC2 hciy hci
    cases wv with
    | true =>
     go_wp2;go_roundw
     case rel=>exact⟨1,by omega,by go_num,fun j hj=>(show j=0 by omega) ▸ HAT2.out,kz⟩
     case measure=>simp[intOf]; omega
    | false =>
     go_wp2;go_ret;exact⟨ret_bool (HBAD.out HAT2.out).symm,kz⟩
   ·obtain⟨m,rfl⟩:∃ m,i=m+1:=⟨i-1,by omega⟩
    have hcm:=hci' m rfl;rw[decide_eq_false i0,Bool.false_or,Nat.add_sub_cancel] at hat;have hsub:((m+1:Nat):Int)-1=(m:Int):=by omega
    have hpos:¬ (m:Int)+1<=0:=by omega
    have hpos':(0:Int)<(m:Int)+1:=by omega
    have hml:m<l.length:=by omega
    have hpos2:(0:Int)<=(m:Int)+1:=by omega
    have hwm:IntKind.i64.wrap (m:Int)=m:=by rw[IntKind.wrap_i64]; omega
    by_cases n2:l.getD m 0<(k:Int)
    ·rw[decide_eq_true n2] at hat;have HAT2:Hid (LA (m+1)=withinB ts xs (wh.getD k lz).cs ss):=by
      show _=_
      rw[hat]; rfl
     have HC2:Hid _:=HWI.out k (by omega);have n2':¬ (k:Int)<=l.getD m 0:=by omega
     clear hat HAT HWI hlc hci' HPASS;generalize withinB ts xs (wh.getD k lz).cs ss=wv at *;generalize l.getD m 0=pv at *;go_wp2;refine wp_region_below (by kernel_rfl) (by kernel_rfl) ?_;go_big_quiet_want;refine⟨.slice (some (aD lb lof)) l.length lcap',fun x hx=>?_,?_⟩
     ·go_simp
     simp only[pA,sB,sC];go_big_quiet_on;go_big_quiet_want;refine⟨.int .i64 ((m:Int)+1),fun x hx=>?_,?_⟩
     ·go_simp
     simp only[pA,sB,sC];go_big_quiet_on;go_big_quiet_want;refine⟨.pointer (some (aD lb (lof+(m+1)))),fun x hx=>?_,?_⟩
     ·go_simp
     simp only[pA,sB,sC];go_big_quiet_on;go_big_quiet_want;refine⟨.int .i64 k,fun x hx=>?_,?_⟩
     ·have e0:=cB hx hci;go_simp
     simp only[pA,sB,sC];go_big_quiet_on;go_big_quiet_want;refine⟨.bool false,fun x hx=>?_,?_⟩
     ·go_simp
     simp only[pA,sB,sC];go_big_quiet_on;go_big_quiet_want;refine⟨.bool false,fun x hx=>?_,?_⟩
     ·go_simp
     simp only[pA,sB,sC];go_big_quiet_on;go_big_quiet_want;refine⟨.slice (some (aD lb lof)) l.length lcap',fun x hx=>?_,?_⟩
     ·go_simp
     simp only[pA,sB,sC];go_big_quiet_on;go_big_quiet_want;refine⟨.int .i64 ((m:Int)+1),fun x hx=>?_,?_⟩
     ·go_simp
     simp only[pA,sB,sC];go_big_quiet_on;go_big_quiet_want;refine⟨.pointer (some (aD lb (lof+(m+1)))),fun x hx=>?_,?_⟩
     ·go_simp
     simp only[pA,sB,sC];go_big_quiet_on;go_big_quiet_want;refine⟨.int .i64 k,fun x hx=>?_,?_⟩
     ·have e0:=cB hx hci;go_simp
     simp only[pA,sB,sC];go_big_quiet_on;go_big_quiet_want;refine⟨.pointer (some (aD b 0)),fun x hx=>?_,?_⟩
     ·go_simp
     simp only[pA,sB,sC];go_big_quiet_on;go_big_quiet_want;refine⟨.pointer (some (aD b 0)),fun x hx=>?_,?_⟩
     ·go_simp
     simp only[pA,sB,sC];go_big_quiet_on;go_big_quiet_want;refine⟨.pointer (some (aD b 1)),fun x hx=>?_,?_⟩
     ·go_simp
     simp only[pA,sB,sC];go_big_quiet_on;go_big_quiet_want;refine⟨.pointer (some (aD b 2)),fun x hx=>?_,?_⟩
     ·go_simp
     simp only[pA,sB,sC];go_big_quiet_on;go_big_quiet_want;refine⟨.slice wad wh.length wcap,fun x hx=>?_,?_⟩
     ·have e0:=cB hx u2;go_simp
     simp only[pA,sB,sC];go_big_quiet_on;go_big_quiet_want;refine⟨.int .i64 wh.length,fun x hx=>?_,?_⟩
     ·go_simp
     simp only[pA,sB,sC];go_big_quiet_on;go_big_quiet_want;refine⟨.bool false,fun x hx=>?_,?_⟩
     ·go_simp
     simp only[pA,sB,sC];go_big_quiet_on;go_big_quiet_want;refine⟨.bool false,fun x hx=>?_,?_⟩
     ·go_simp
     simp only[pA,sB,sC];go_big_quiet_on;go_big_quiet_want;refine⟨.bool false,fun x hx=>?_,?_⟩
     ·go_simp
     simp only[pA,sB,sC];go_big_quiet_on;go_big_quiet_want;refine⟨.int .i64 ((m:Int)+1),fun x hx=>?_,?_⟩
     ·go_simp
     simp only[pA,sB,sC];go_big_quiet_on;go_big_quiet_want;refine⟨.bool true,fun x hx=>?_,?_⟩
     ·go_simp
     simp only[pA,sB,sC];go_big_quiet_on;go_big_quiet_want;refine⟨.bool true,fun x hx=>?_,?_⟩
     ·go_simp
     simp only[pA,sB,sC];go_big_quiet_on;go_big_quiet_want;refine⟨.slice (some (aD lb lof)) l.length lcap',fun x hx=>?_,?_⟩
     ·go_simp
     simp only[pA,sB,sC];go_big_quiet_on;go_big_quiet_want;refine⟨.int .i64 ((m:Int)+1),fun x hx=>?_,?_⟩
     ·go_simp
     simp only[pA,sB,sC];go_big_quiet_on;go_big_quiet_want;refine⟨.pointer (some (aD lb (lof+(m+1)))),fun x hx=>?_,?_⟩
     ·go_simp
     simp only[pA,sB,sC];go_big_quiet_on;go_big_quiet_want;refine⟨.int .i64 k,fun x hx=>?_,?_⟩
     ·have e0:=cB hx hci;go_simp
     simp only[pA,sB,sC];go_big_quiet_on;go_big_quiet_want;refine⟨.slice (some (aD lb lof)) l.length lcap',fun x hx=>?_,?_⟩
     ·go_simp
     simp only[pA,sB,sC];go_big_quiet_on;go_big_quiet_want;refine⟨.int .i64 ((m:Int)+1),fun x hx=>?_,?_⟩
     ·go_simp
     simp only[pA,sB,sC];go_big_quiet_on;go_big_quiet_want;refine⟨.int .i64 m,fun x hx=>?_,?_⟩
     ·go_simp
     simp only[pA,sB,sC];go_big_quiet_on;go_big_quiet_want;refine⟨.pointer (some (aD lb (lof+m))),fun x hx=>?_,?_⟩
     ·go_simp
     simp only[pA,sB,sC];go_big_quiet_on;go_big_quiet_want;refine⟨.int .i64 pv,fun x hx=>?_,?_⟩
     ·have e0:=cB hx hcm;go_simp
     simp only[pA,sB,sC];go_big_quiet_on;go_big_quiet_want;refine⟨.bool false,fun x hx=>?_,?_⟩
     ·go_simp
     simp only[pA,sB,sC];go_big_quiet_on;go_big_quiet_want;refine⟨.bool false,fun x hx=>?_,?_⟩
     ·go_simp
     simp only[pA,sB,sC];go_big_quiet_on;go_big_quiet_want;refine⟨.bool false,fun x hx=>?_,?_⟩
     ·go_simp
     simp only[pA,sB,sC];go_big_quiet_on;refine wpQuiet_nil ?_;intro wy hbz;have hby:=bQ1 hbr hbz;have hciy:=cB hbz hci;clear hbz;go_wp2;refine wp_region_below (by kernel_rfl) (by kernel_rfl) ?_;go_big_quiet_want;refine⟨.pointer (some (aD b 0)),fun x hx=>?_,?_⟩
     ·go_simp
     simp only[pA,sB,sC];go_big_quiet_on;go_big_quiet_want;refine⟨.pointer (some (aD b 0)),fun x hx=>?_,?_⟩
     ·go_simp
     simp only[pA,sB,sC];go_big_quiet_on;go_big_quiet_want;refine⟨.pointer (some (aD b 0)),fun x hx=>?_,?_⟩
     ·go_simp
     simp only[pA,sB,sC];go_big_quiet_on;go_big_quiet_want;refine⟨.slice ao ts.length cap,fun x hx=>?_,?_⟩
     ·have e0:=cB (bQ1 hby hx) t0;go_simp
     simp only[pA,sB,sC];go_big_quiet_on;go_big_quiet_want;refine⟨.pointer (some (aD b 0)),fun x hx=>?_,?_⟩
     ·go_simp
     simp only[pA,sB,sC];go_big_quiet_on;go_big_quiet_want;refine⟨.pointer (some (aD b 0)),fun x hx=>?_,?_⟩
     ·go_simp
     simp only[pA,sB,sC];go_big_quiet_on;go_big_quiet_want;refine⟨.pointer (some (aD b 1)),fun x hx=>?_,?_⟩
     ·go_simp
     simp only[pA,sB,sC];go_big_quiet_on;go_big_quiet_want;refine⟨.agg #[.slice sad xs.length scap,.slice wad wh.length wcap,.bool group,.slice kad kxs.length kcap,.slice uad uxs.length ucap,.slice lad lxs.length lcap,.slice oad oxs.length ocap],fun x hx=>?_,?_⟩
     ·have e1:=cB (bQ1 hby hx) t1;have e2:=cB (bQ1 hby hx) t2;have e3:=cB (bQ1 hby hx) t3;have e4:=cB (bQ1 hby hx) t4;have e5:=cB (bQ1 hby hx) t5;have e6:=cB (bQ1 hby hx) t6;have e7:=cB (bQ1 hby hx) t7;go_simp
     simp only[pA,sB,sC];go_big_quiet_on;go_big_quiet_want;refine⟨.slice (some (aD lb lof)) l.length lcap',fun x hx=>?_,?_⟩
     ·go_simp
     simp only[pA,sB,sC];go_big_quiet_on;go_big_quiet_want;refine⟨.int .i64 ((m:Int)+1),fun x hx=>?_,?_⟩
     ·go_simp
     simp only[pA,sB,sC];go_big_quiet_on;go_big_quiet_want;refine⟨.pointer (some (aD lb (lof+(m+1)))),fun x hx=>?_,?_⟩
     ·go_simp
     simp only[pA,sB,sC];go_big_quiet_on;go_big_quiet_want;refine⟨.int .i64 k,fun x hx=>?_,?_⟩
     ·have e0:=cB hx hciy;go_simp
     simp only[pA,sB,sC];go_big_quiet_on;go_big_quiet_want;refine⟨.slice so ss.length scap',fun x hx=>?_,?_⟩
     ·go_simp
     simp only[pA,sB,sC];go_big_quiet_on;go_big_quiet_want;refine⟨.bool wv,fun x hx=>?_,?_⟩
     ·have hC:=Calls.within hx (HC2.out x (bQ1 hby hx));go_simp
     simp only[pA,sB,sC];go_big_quiet_on;go_big_quiet_want;refine⟨.bool wv,fun x hx=>?_,?_⟩
     ·go_simp
     simp only[pA,sB,sC];go_big_quiet_on;refine wpQuiet_nil ?_;intro wz hbz;have kz:=bQ1 hby hbz;clear hbz hby HC2 hciy hci
     cases wv with
     | true =>
      go_wp2;go_roundw
      case rel=>exact⟨m+1+1,by omega,by go_num,fun j hj=>by
       by_cases e:j=m+1
       ·rw[e]; exact HAT2.out
       ·exact HA.out j (by omega),kz⟩
      case measure=>simp[intOf]; omega
     | false =>
      go_wp2;go_ret;exact⟨ret_bool (HBAD.out HAT2.out).symm,kz⟩
    ·have hf:LA (m+1)=false:=by rw[hat,decide_eq_false n2,Bool.and_false,Bool.false_and]
     have HF:Hid _:=HBAD.out hf;have n2':(k:Int)<=l.getD m 0:=by omega
     clear hf hat HBAD HAT HLI HWI hlc hci' HPASS HA;generalize l.getD m 0=pv at *;go_wp2;refine wp_region_below (by kernel_rfl) (by kernel_rfl) ?_;go_big_quiet_want;refine⟨.slice (some (aD lb lof)) l.length lcap',fun x hx=>?_,?_⟩
     ·go_simp
     simp only[pA,sB,sC];go_big_quiet_on;go_big_quiet_want;refine⟨.int .i64 ((m:Int)+1),fun x hx=>?_,?_⟩
     ·go_simp
     simp only[pA,sB,sC];go_big_quiet_on;go_big_quiet_want;refine⟨.pointer (some (aD lb (lof+(m+1)))),fun x hx=>?_,?_⟩
     ·go_simp
     simp only[pA,sB,sC];go_big_quiet_on;go_big_quiet_want;refine⟨.int .i64 k,fun x hx=>?_,?_⟩
     ·have e0:=cB hx hci;go_simp
     simp only[pA,sB,sC];go_big_quiet_on;go_big_quiet_want;refine⟨.bool false,fun x hx=>?_,?_⟩
     ·go_simp
     simp only[pA,sB,sC];go_big_quiet_on;go_big_quiet_want;refine⟨.bool false,fun x hx=>?_,?_⟩
     ·go_simp
     simp only[pA,sB,sC];go_big_quiet_on;go_big_quiet_want;refine⟨.slice (some (aD lb lof)) l.length lcap',fun x hx=>?_,?_⟩
     ·go_simp
     simp only[pA,sB,sC];go_big_quiet_on;go_big_quiet_want;refine⟨.int .i64 ((m:Int)+1),fun x hx=>?_,?_⟩
     ·go_simp
     simp only[pA,sB,sC];go_big_quiet_on;go_big_quiet_want;refine⟨.pointer (some (aD lb (lof+(m+1)))),fun x hx=>?_,?_⟩
     ·go_simp
     simp only[pA,sB,sC];go_big_quiet_on;go_big_quiet_want;refine⟨.int .i64 k,fun x hx=>?_,?_⟩
     ·have e0:=cB hx hci;go_simp
     simp only[pA,sB,sC];go_big_quiet_on;go_big_quiet_want;refine⟨.pointer (some (aD b 0)),fun x hx=>?_,?_⟩
     ·go_simp
     simp only[pA,sB,sC];go_big_quiet_on;go_big_quiet_want;refine⟨.pointer (some (aD b 0)),fun x hx=>?_,?_⟩
     ·go_simp
     simp only[pA,sB,sC];go_big_quiet_on;go_big_quiet_want;refine⟨.pointer (some (aD b 1)),fun x hx=>?_,?_⟩
     ·go_simp
     simp only[pA,sB,sC];go_big_quiet_on;go_big_quiet_want;refine⟨.pointer (some (aD b 2)),fun x hx=>?_,?_⟩
     ·go_simp
     simp only[pA,sB,sC];go_big_quiet_on;go_big_quiet_want;refine⟨.slice wad wh.length wcap,fun x hx=>?_,?_⟩
     ·have e0:=cB hx u2;go_simp
     simp only[pA,sB,sC];go_big_quiet_on;go_big_quiet_want;refine⟨.int .i64 wh.length,fun x hx=>?_,?_⟩
     ·go_simp
     simp only[pA,sB,sC];go_big_quiet_on;go_big_quiet_want;refine⟨.bool false,fun x hx=>?_,?_⟩
     ·go_simp
     simp only[pA,sB,sC];go_big_quiet_on;go_big_quiet_want;refine⟨.bool false,fun x hx=>?_,?_⟩
     ·go_simp
     simp only[pA,sB,sC];go_big_quiet_on;go_big_quiet_want;refine⟨.bool false,fun x hx=>?_,?_⟩
     ·go_simp
     simp only[pA,sB,sC];go_big_quiet_on;go_big_quiet_want;refine⟨.int .i64 ((m:Int)+1),fun x hx=>?_,?_⟩
     ·go_simp
     simp only[pA,sB,sC];go_big_quiet_on;go_big_quiet_want;refine⟨.bool true,fun x hx=>?_,?_⟩
     ·go_simp
     simp only[pA,sB,sC];go_big_quiet_on;go_big_quiet_want;refine⟨.bool true,fun x hx=>?_,?_⟩
     ·go_simp
     simp only[pA,sB,sC];go_big_quiet_on;go_big_quiet_want;refine⟨.slice (some (aD lb lof)) l.length lcap',fun x hx=>?_,?_⟩
     ·go_simp
     simp only[pA,sB,sC];go_big_quiet_on;go_big_quiet_want;refine⟨.int .i64 ((m:Int)+1),fun x hx=>?_,?_⟩
     ·go_simp
     simp only[pA,sB,sC];go_big_quiet_on;go_big_quiet_want;refine⟨.pointer (some (aD lb (lof+(m+1)))),fun x hx=>?_,?_⟩
     ·go_simp
     simp only[pA,sB,sC];go_big_quiet_on;go_big_quiet_want;refine⟨.int .i64 k,fun x hx=>?_,?_⟩
     ·have e0:=cB hx hci;go_simp
     simp only[pA,sB,sC];go_big_quiet_on;go_big_quiet_want;refine⟨.slice (some (aD lb lof)) l.length lcap',fun x hx=>?_,?_⟩
     ·go_simp
     simp only[pA,sB,sC];go_big_quiet_on;go_big_quiet_want;refine⟨.int .i64 ((m:Int)+1),fun x hx=>?_,?_⟩
     ·go_simp
     simp only[pA,sB,sC];go_big_quiet_on;go_big_quiet_want;refine⟨.int .i64 m,fun x hx=>?_,?_⟩
     ·go_simp
     simp only[pA,sB,sC];go_big_quiet_on;go_big_quiet_want;refine⟨.pointer (some (aD lb (lof+m))),fun x hx=>?_,?_⟩
     ·go_simp
     simp only[pA,sB,sC];go_big_quiet_on;go_big_quiet_want;refine⟨.int .i64 pv,fun x hx=>?_,?_⟩
     ·have e0:=cB hx hcm;go_simp
     simp only[pA,sB,sC];go_big_quiet_on;go_big_quiet_want;refine⟨.bool true,fun x hx=>?_,?_⟩
     ·go_simp
     simp only[pA,sB,sC];go_big_quiet_on;go_big_quiet_want;refine⟨.bool true,fun x hx=>?_,?_⟩
     ·go_simp
     simp only[pA,sB,sC];go_big_quiet_on;go_big_quiet_want;refine⟨.bool true,fun x hx=>?_,?_⟩
     ·go_simp
     simp only[pA,sB,sC];go_big_quiet_on;refine wpQuiet_nil ?_;intro wz hbz;have kz:=bQ1 hbr hbz;go_wp2;go_ret;exact⟨ret_bool HF.out.symm,kz⟩
  ·have e:i=l.length:=by omega
   have HT:Hid (LB=true):=by
    show _=_
    rw[HLI.out];exact (range_all_true (fun j hj=>HA.out j (by omega))).symm
   clear HA HAT HLI HWI e;go_wp2;go_ret;exact⟨ret_bool HT.out.symm,hbr⟩
end Go.Proofs.YtlpbelhfpoilpaaGreatDoor
