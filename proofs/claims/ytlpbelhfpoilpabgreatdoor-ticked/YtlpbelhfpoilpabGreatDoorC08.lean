import Derived.Deep.RegionHeld3
import Derived.Deep.CutRange
import Derived.Deep.RegionLaw
import Derived.Test.YtlpbelhfpoilpabGreatDoorC01
import Derived.Test.YtlpbelhfpoilpabGreatDoorC04
import Derived.Test.YtlpbelhfpoilpabGreatDoorC07
set_option linter.all false
set_option maxRecDepth 100000
set_option maxHeartbeats 16000000
namespace Go.Scout
open Go.RowKit
theorem srcL_take (ts:List TableD) (q:QueryV) {xs:List Int} {k:Nat} (hk:k<xs.length):setN (srcL ts q (xs.take (k+1)))=setN (srcL ts q (xs.take k))|||2 ^ sourceN ts q.src.xs (xs.getD k 0):=by
 have e:xs.getD k 0=xs[k]:=by simp[List.getD,hk]
 unfold srcL;rw[List.take_succ_eq_append_getElem hk,List.map_append,setN_append,e]
 show _|||setN [(sourceN ts q.src.xs xs[k]:Int)]=_
 rw[setN_one]
def ColOk (ts:List TableD) (q:QueryV) (xs:List Int):Prop:=∀ c∈xs,0<=c/\c<widthN ts q.src.xs
theorem srcL_small {ts:List TableD} {q:QueryV} (ok:Ok ts q) {xs:List Int} (h:ColOk ts q xs):SmallL q.src.xs.length (srcL ts q xs):=fun x hx=>by
 obtain⟨c,hc,rfl⟩:=List.mem_map.1 hx;obtain⟨h0,h1⟩:=h c hc;have:=(sourceN_at ok.cat ok.src h0 h1).1;omega
theorem srcL_lt {ts:List TableD} {q:QueryV} (ok:Ok ts q) {xs:List Int} (h:ColOk ts q xs) (k:Nat):setN (srcL ts q (xs.take k))<18446744073709551616:=
 (srcL_small ok (fun c hc=>h c (List.mem_of_mem_take hc))).lt ok.small
theorem colsN_len {ts:List TableD} {q:QueryV} (ok:Ok ts q):((colsN ts q).length:Int)=widthN ts q.src.xs:=by
 have:=colsTo_len ok.cat ok.src q.src.xs.length (Nat.le_refl _);rw[List.take_length] at this;exact this
theorem srcOf_lt {ts:List TableD} {q:QueryV} (ok:Ok ts q) {c:Int} (h0:0<=c) (h1:c<widthN ts q.src.xs):sourceN ts q.src.xs c<q.src.xs.length:=(sourceN_at ok.cat ok.src h0 h1).1
end Go.Scout
namespace Go.Proofs.YtlpbelhfpoilpabGreatDoor
open Go.RowKit Go.Scout
theorem namesRight_any (c:CondD) (w:World) :
  Calls Tryz.prog 103 #[c.val] w fun e w'=>e=.returned (.bool (!c.const&&decide (c.op≠2)))/\Below w.heap.size w w':=by
 obtain⟨not,op,left,const,right⟩:=c;have hb:=bQ2 w (.cells #[.bool not,.int .i64 op,.int .i64 left,.bool const,.int .i64 right] 63);have HB:Hid _:=hb;clear hb;have HD:Hid (decide (op≠2)=(op != 2)):=by show _=_; rw[Bool.eq_iff_iff]; simp
 unfold CondD.val
 cases const with
 | false =>
  go_enter Tryz.func103,Tryz.ntmps103;go_wp2;go_ret;exact⟨ret_bool (by show _=(true&&decide (op≠2)); rw[HD.out]; rfl),HB.out⟩
 | true =>
  go_enter Tryz.func103,Tryz.ntmps103;go_wp2;go_ret;exact⟨rfl,HB.out⟩
theorem ints_alloc (w:World) (xs:List Int) (t:TypeId) (hl:xs.length<=1000):IntsAt (w.alloc (.cells (xs.map (Value.int .i64)).toArray t)) (some (aD w.heap.size 0)) xs:=by
 refine⟨by omega,fun i hi=>⟨w.heap.size,0,rfl,?_⟩⟩;simp only[World.cell?,bQ3 w _];simp[List.getD,hi]
theorem condColumns_any (c:CondD) (w:World) :
  Calls Tryz.prog 76 #[c.val] w fun e w'=>∃ b,e=.returned (.slice (some (aD b 0)) (condCols c).length (condCols c).length)/\IntsAt w' (some (aD b 0)) (condCols c)/\Below w.heap.size w w':=by
 have HN:Hid _:=fun x=>namesRight_any c x
 obtain⟨w1,hw1,hk1,hbox⟩:=newB w #[.bool c.not,.int .i64 c.op,.int .i64 c.left,.bool c.const,.int .i64 c.right] 63;have g0:w1.cell? (aD w.heap.size 0)=some (.bool c.not):=hbox.cell 0;have g1:w1.cell? (aD w.heap.size 1)=some (.int .i64 c.op):=hbox.cell 1;have g2:w1.cell? (aD w.heap.size 2)=some (.int .i64 c.left):=hbox.cell 2;have g3:w1.cell? (aD w.heap.size 3)=some (.bool c.const):=hbox.cell 3;have g4:w1.cell? (aD w.heap.size 4)=some (.int .i64 c.right):=hbox.cell 4;have HC:Hid (condCols c=if (!c.const&&decide (c.op≠2))=true then [c.left,c.right] else [c.left]):=by
  show _=_
  unfold condCols
  cases c.const <;> by_cases h:c.op=2 <;> simp[h]
 have hN:=HN.out w1;generalize (!c.const&&decide (c.op≠2))=B at *;generalize condCols c=CC at *;clear HN hbox;obtain⟨not,op,left,const,right⟩:=c;unfold CondD.val at *;simp only at *;have HK1:Hid _:=hk1;clear hk1
 cases B with
 | true =>
  obtain rfl:CC=[left,right]:=HC.out;have HIA:Hid (∀ x:World,IntsAt (x.alloc (.cells #[.int .i64 left,.int .i64 right] 3)) (some (aD x.heap.size 0)) [left,right]):=fun x=>ints_alloc x [left,right] _ (by simp)
  clear HC;go_enter Tryz.func76,Tryz.ntmps76;go_wp2_with fail;refine hN.mono ?_;clear hN hw1;rintro e w2 ⟨rfl,hb2⟩;have e2:=cB hb2 g2;have e4:=cB hb2 g4;have HB2:Hid _:=bQ1 (bQ1 HK1.out hb2) (bQ2 w2 (.cells #[.int .i64 left,.int .i64 right] 3));clear hb2 g0 g1 g2 g3 g4;go_wp2;go_ret;exact⟨_,rfl,HIA.out _,HB2.out⟩
 | false =>
  obtain rfl:CC=[left]:=HC.out;have HIA:Hid (∀ x:World,IntsAt (x.alloc (.cells #[.int .i64 left] 3)) (some (aD x.heap.size 0)) [left]):=fun x=>ints_alloc x [left] _ (by simp)
  clear HC;go_enter Tryz.func76,Tryz.ntmps76;go_wp2_with fail;refine hN.mono ?_;clear hN hw1;rintro e w2 ⟨rfl,hb2⟩;have e2:=cB hb2 g2;have HB2:Hid _:=bQ1 (bQ1 HK1.out hb2) (bQ2 w2 (.cells #[.int .i64 left] 3));clear hb2 g0 g1 g2 g3 g4;go_wp2;go_ret;exact⟨_,rfl,HIA.out _,HB2.out⟩
theorem sourcesOf_any (f:FactsV) (ts:List TableD) (q:QueryV) (xa:Option Addr) (xc:Nat) (xs:List Int) (w:World) (ok:Ok ts q) (hf:ColsAt w f.ca (colsN ts q)) (hx:IntsAt w xa xs) (hxs:ColOk ts q xs) :
  Calls Tryz.prog 68 #[.agg (f.cells ts q),.slice xa xs.length xc] w fun e w'=>e=.returned (.int .u64 ((setN (srcL ts q xs):Nat):Int))/\Below w.heap.size w w':=by
 obtain⟨w1,hw1⟩:∃ x,x=w.alloc (.cells (f.cells ts q) 79):=⟨_,rfl⟩
 have hk1:Below w.heap.size w w1:=by rw[hw1]; exact bQ2 _ _
 have hbox:GB w1 w.heap.size 79 (f.cells ts q):=by rw[hw1]; exact bQ3 _ _
 have q7:w1.cell? (aD w.heap.size 7)=some (.slice f.ca (colsN ts q).length f.cc):=hbox.cell 7;have hWC:w.alloc (.cells (f.cells ts q) 79)=w1:=hw1.symm;have HCO:Hid _:=hf.below hk1;have HXI:Hid _:=IntsAt.below hk1 hx;have hxl:=hx.1;have hcl:=hf.1;have HST:Hid (∀ k,k<xs.length->setN (srcL ts q (xs.take (k+1)))=setN (srcL ts q (xs.take k))|||2 ^ sourceN ts q.src.xs (xs.getD k 0)):=fun k hk=>srcL_take ts q hk
 have HSL:Hid (∀ k,setN (srcL ts q (xs.take k))<18446744073709551616):=fun k=>srcL_lt ok hxs k
 have HSE:Hid (setN (srcL ts q (xs.take xs.length))=setN (srcL ts q xs)):=by show _=_; rw[List.take_length]
 have HS0:Hid (setN (srcL ts q (xs.take 0))=0):=rfl;have HXC:Hid (∀ k,k<xs.length->∃ n:Nat,xs.getD k 0=n/\n<(colsN ts q).length/\((colsN ts q).getD n (0,0)).1=sourceN ts q.src.xs (xs.getD k 0)/\sourceN ts q.src.xs (xs.getD k 0)<64):=fun k hk=>by
  obtain⟨h0,h1⟩:=hxs _ (getD_memR hk (d:=0));have h2:=colsN_len ok;have h3:=srcOf_lt ok h0 h1;have h4:=ok.small;refine⟨(xs.getD k 0).toNat,by omega,by omega,rfl,by omega⟩
 have HK1:Hid _:=hk1;obtain⟨ST,hST⟩:∃ ST:Nat->Nat,ST=fun k=>setN (srcL ts q (xs.take k)):=⟨_,rfl⟩
 have HST':Hid (∀ k,k<xs.length->ST (k+1)=ST k|||2 ^ sourceN ts q.src.xs (xs.getD k 0)):=by rw[hST]; exact HST.out
 have HSL':Hid (∀ k,ST k<18446744073709551616):=by rw[hST]; exact HSL.out
 have HSE':Hid (ST xs.length=setN (srcL ts q xs)):=by rw[hST]; exact HSE.out
 have HS0':Hid (ST 0=0):=by rw[hST]; exact HS0.out
 generalize setN (srcL ts q xs)=R at *;generalize sourceN ts q.src.xs=SN at *;generalize colsN ts q=CS at *;generalize f.cells ts q=FC at *;clear hST HST HSL HSE HS0 hw1 hbox hk1 ok hxs hf hx;go_enter Tryz.func68,Tryz.ntmps68;go_wp2;clear hWC;go_loopw [5,10] (fun sv iv wr=>∃ k:Nat,k<=xs.length/\iv=.int .i64 k/\(∃ s:Nat,sv=.int .u64 (s:Int)/\Hid (s=ST k))/\Below w1.heap.size w1 wr) (fun _ iv _=>xs.length-(intOf iv).toNat)
 case atStart=>exact⟨0,Nat.zero_le _,rfl,⟨0,rfl,HS0'.out.symm⟩,Below.refl _ _⟩
 case round=>
  obtain⟨k,hk,rfl,⟨s,rfl,hs⟩,hbr⟩:=hrel;by_cases hlt:k<xs.length
  ·obtain⟨xb,xo,rfl,hxc⟩:=IntsAt.get HXI.out hlt;have hck:=cB hbr (hxc k hlt);obtain⟨n,hn,hnl,hcn,hn64⟩:=HXC.out k hlt;have HT:Hid _:=HST'.out k hlt;have hsl:s<18446744073709551616:=by rw[hs.out]; exact HSL'.out k
   obtain⟨cb,co,hca,c0,_⟩:=HCO.out.2 n hnl;have d0:=cB hbr c0;have q7':=cB hbr q7;rw[hca] at q7';rw[hn] at hck;rw[hcn] at d0;rw[<- hs.out] at HT;clear hxc c0 hca hcn hs;generalize SN (xs.getD k 0)=m at *;clear hn;obtain⟨wa,hwa⟩:∃ x,wr.alloc (.cells #[.int .i64 (m:Int)] 3)=x:=⟨_,rfl⟩
   have hSO:=setOf_one wr.heap.size m wa (by rw[<- hwa]; simp) hn64;obtain⟨wb,hwb⟩:∃ x,wa.alloc (.cells #[.int .u64 (s:Int),.int .u64 ((2 ^ m:Nat):Int)] 75)=x:=⟨_,rfl⟩
   have hp:2 ^ m<18446744073709551616:=Nat.pow_lt_pow_right (n:=64) (by omega) hn64;have hUN:=union_two wa.heap.size s (2 ^ m) wb (by rw[<- hwb]; simp) (by rw[<- hwb]; simp) hsl hp;have HBW:Hid (Below w1.heap.size w1 wb):=by
    show Below _ _ _
    rw[<- hwb,<- hwa];exact bQ1 (bQ1 hbr (bQ2 _ _)) (bQ2 _ _)
   generalize 2 ^ m=p at *;go_wp2_with fail;refine hSO.mono ?_;clear hSO;rintro e w2 ⟨rfl,rfl⟩;go_wp2_with fail;refine hUN.mono ?_;clear hUN;rintro e w3 ⟨rfl,rfl⟩;clear hwa hwb;go_wp2;go_roundw
   case rel=>exact⟨k+1,by omega,by go_num,⟨s|||p,rfl,HT.out.symm⟩,HBW.out⟩
   case measure=>simp[intOf]; omega
  ·obtain rfl:k=xs.length:=by omega
   have HV:Hid (s=R):=hs.out.trans HSE'.out;have HB:Hid _:=bQ1 HK1.out hbr;clear hs hbr;go_wp2;go_ret;exact⟨ret_int (by rw[HV.out]),HB.out⟩
end Go.Proofs.YtlpbelhfpoilpabGreatDoor
namespace Go.Scout
open Go.RowKit
theorem factsCells (f:FactsV) (ts:List TableD) (q:QueryV):∃ v0 v1 v2 v3 v4 v5 v6 v7 v8 v9 v10 v11 v12,f.cells ts q=#[v0,v1,v2,v3,v4,v5,v6,v7,v8,v9,v10,v11,v12]/\v0=q.src.val/\v1=.slice q.wad q.wh.length q.wcap/\v2=.bool q.group/\v3=q.keys.val/\v4=q.sums.val/\v5=q.sel.val/\v6=q.ord.val/\
  v7=.slice f.ca (colsN ts q).length f.cc/\v8=.int .u64 ((2 ^ q.src.xs.length-1:Nat):Int)/\v9=.int .u64 ((2 ^ q.wh.length-1:Nat):Int)/\v10=.slice f.ra q.src.xs.length f.rc/\v11=.slice f.na f.nl f.nc/\v12=.slice f.pa f.pl f.pc:=
 ⟨_,_,_,_,_,_,_,_,_,_,_,_,_,rfl,rfl,rfl,rfl,rfl,rfl,rfl,rfl,rfl,rfl,rfl,rfl,rfl,rfl⟩
end Go.Scout
namespace Go.Proofs.YtlpbelhfpoilpabGreatDoor
open Go.RowKit Go.Scout
end Go.Proofs.YtlpbelhfpoilpabGreatDoor
namespace Go.Scout
open Go.RowKit
theorem partCells (p:PartV):p.cells=#[.int .i64 p.kind,.int .u64 (p.sources:Int),.int .u64 (p.clauses:Int),p.order.val,.int .u64 (p.size:Int),.int .u64 (p.cost:Int)]:=rfl
theorem workP_le (k:Int) (l r s:Nat):workP k l r s<=topN:=by
 unfold workP
 repeat' split
 ·exact sumN_le _
 ·exact sumN_le _
 ·exact timesN_le _ _
end Go.Scout
namespace Go.Proofs.YtlpbelhfpoilpabGreatDoor
open Go.RowKit Go.Scout
theorem costOf_any (p:PartV) (ao:Option Addr) (cap:Nat) (ps:List PartV) (w:World) (hp:PartsAt w ao ps) (hz:p.size<=topN) (h1:p.kind≠1->0<ps.length) (h2:3<=p.kind->p.kind<=5->1<ps.length) :
  Calls Tryz.prog 119 #[.agg p.cells,.slice ao ps.length cap] w fun e w'=>e=.returned (.int .u64 (costP p.kind p.size (ps.getD 0 pvz).cost (ps.getD 0 pvz).size (ps.getD 1 pvz).cost (ps.getD 1 pvz).size:Nat))/\Below w.heap.size w w':=by
 obtain⟨w1,hw1,hk1,hg1⟩:=newB w p.cells 92;have hc0:Below w.heap.size w w1:=hk1;have gg1:=hg1;have g1_0:w1.cell? (aD w.heap.size 0)=some (.int .i64 p.kind):=gg1.cell 0;have g1_4:w1.cell? (aD w.heap.size 4)=some (.int .u64 (p.size:Int)):=gg1.cell 4;have HC:Hid _:=hc0;generalize hPC:p.cells=PC at *;clear hPC;by_cases k1:p.kind=1
 ·have HV:Hid (costP p.kind p.size (ps.getD 0 pvz).cost (ps.getD 0 pvz).size (ps.getD 1 pvz).cost (ps.getD 1 pvz).size=sumN [p.size,1]):=by show _=_; unfold costP; rw[if_pos k1]
  generalize costP p.kind p.size (ps.getD 0 pvz).cost (ps.getD 0 pvz).size (ps.getD 1 pvz).cost (ps.getD 1 pvz).size=R at *;have hS:=sum2 w1 p.size 1 hz (by unfold topN; omega);rw[<- HV.out] at hS;have kb:(p.kind==1)=true:=by simp[k1]
  clear HV k1 h1 h2 hz hg1 gg1 hk1 hc0 hp;generalize p.kind=k at *;generalize p.size=s at *;go_enter Tryz.func119,Tryz.ntmps119;go_wp2_with fail;refine hS.mono ?_;clear hS;rintro e w2 ⟨rfl,hb2⟩;have HB:Hid _:=bQ1 HC.out hb2;clear hb2;go_wp2;go_ret;exact⟨rfl,HB.out⟩
 have hn0:=h1 k1;have hpl:=hp.1;obtain⟨⟨pb,po,rfl,c0,c1,c2,c3,c4,c5⟩,hl⟩:=hp.2 0 hn0;rw[Nat.zero_mul,Nat.add_zero] at c0 c1 c2 c3 c4 c5;have HP1:Hid (1<ps.length->w.cell? (aD pb (po+6))=some (.int .i64 (ps.getD 1 pvz).kind)/\w.cell? (aD pb (po+6+1))=some (.int .u64 ((ps.getD 1 pvz).sources:Int))/\
  w.cell? (aD pb (po+6+2))=some (.int .u64 ((ps.getD 1 pvz).clauses:Int))/\w.cell? (aD pb (po+6+3))=some (ps.getD 1 pvz).order.val/\
  w.cell? (aD pb (po+6+4))=some (.int .u64 ((ps.getD 1 pvz).size:Int))/\w.cell? (aD pb (po+6+5))=some (.int .u64 ((ps.getD 1 pvz).cost:Int))/\(ps.getD 1 pvz).size<=topN/\(ps.getD 1 pvz).cost<=topN):=fun h=>by
  obtain⟨⟨b',o',e,d0,d1,d2,d3,d4,d5⟩,hr⟩:=hp.2 1 h
  cases e
  rw[Nat.one_mul] at d0 d1 d2 d3 d4 d5;exact⟨d0,d1,d2,d3,d4,d5,hr.size,hr.cost⟩
 have hlz:=hl.size;have hlc:=hl.cost;obtain⟨R,hR⟩:∃ R,R=costP p.kind p.size (ps.getD 0 pvz).cost (ps.getD 0 pvz).size (ps.getD 1 pvz).cost (ps.getD 1 pvz).size:=⟨_,rfl⟩
 rw[<- hR];unfold costP at hR;rw[if_neg k1] at hR;have HV:Hid _:=hR;clear hR;have h2':=h2;clear hp hl h1 h2 hg1 gg1;generalize p.kind=k at *;generalize p.size=s at *;generalize ps.getD 0 pvz=l at *;generalize ps.getD 1 pvz=r at *;obtain⟨lk,ls,lcl,⟨la,lcp,lx⟩,lz,lc⟩:=l;obtain⟨rk,rs,rcl,⟨ra,rcp,rx⟩,rz,rc⟩:=r;unfold IntsV.val at *;simp only at *;obtain⟨w2,hw2,hk2,hg2⟩:=newB w1 #[.int .i64 lk,.int .u64 (ls:Int),.int .u64 (lcl:Int),.slice la lx.length lcp,.int .u64 (lz:Int),.int .u64 (lc:Int)] 92;have d0:=cB hc0 c0;have d1:=cB hc0 c1;have d2:=cB hc0 c2;have d3:=cB hc0 c3;have d4:=cB hc0 c4;have d5:=cB hc0 c5;have m0:=cB hk2 g1_0;have m4:=cB hk2 g1_4;have l4:w2.cell? (aD w1.heap.size 4)=some (.int .u64 (lz:Int)):=hg2.cell 4;have l5:w2.cell? (aD w1.heap.size 5)=some (.int .u64 (lc:Int)):=hg2.cell 5;have HC2:Hid _:=bQ1 HC.out hk2;have kb1:(k==1)=false:=by simp[k1]
 clear c0 c1 c2 c3 c4 c5 hg2 hk1 hc0 hk2 k1;go_enter Tryz.func119,Tryz.ntmps119;go_wp2;refine wp_region_below (by kernel_rfl) (by kernel_rfl) ?_;go_big_quiet_want;refine⟨.pointer (some (aD w1.heap.size 4)),fun x hx=>?_,?_⟩
 ·go_simp
 simp only[pA,sB,sC];go_big_quiet_on;go_big_quiet_want;refine⟨.int .u64 (lz:Int),fun x hx=>?_,?_⟩
 ·have e0:=cB hx l4;go_simp
 simp only[pA,sB,sC];go_big_quiet_on;go_big_quiet_want;refine⟨.pointer (some (aD w.heap.size 4)),fun x hx=>?_,?_⟩
 ·go_simp
 simp only[pA,sB,sC];go_big_quiet_on;go_big_quiet_want;refine⟨.int .u64 (s:Int),fun x hx=>?_,?_⟩
 ·have e0:=cB hx m4;go_simp
 simp only[pA,sB,sC];go_big_quiet_on;go_big_quiet_want;refine⟨.int .u64 (lz:Int),fun x hx=>?_,?_⟩
 ·go_simp
 simp only[pA,sB,sC];go_big_quiet_on;go_big_quiet_want;refine⟨.int .u64 (s:Int),fun x hx=>?_,?_⟩
 ·go_simp
 simp only[pA,sB,sC];go_big_quiet_on;refine wpQuiet_nil ?_;intro w3 hb3;have n0:=cB hb3 m0;have n5:=cB hb3 l5;have HC3:Hid _:=bQ1 HC2.out hb3;have HPr:Hid (1<ps.length->_):=fun h=>HP1.out h
 clear hw1 hw2 m0 m4 l4 l5 hb3 d0 d1 d2 d3 d4 d5 g1_0 g1_4 HP1 HC HC2;by_cases k345:k=3∨k=4∨k=5
 ·rw[if_pos k345] at HV;obtain⟨q0,q1,q2,q3,q4,q5,hrz,hrc⟩:=HPr.out (h2' (by omega) (by omega));have e0:=cB HC3.out q0;have e1:=cB HC3.out q1;have e2:=cB HC3.out q2;have e3:=cB HC3.out q3;have e4:=cB HC3.out q4;have e5:=cB HC3.out q5;have hlen2:=h2' (by omega) (by omega);obtain⟨w4,hw4,hk4,hg4⟩:=newB w3 #[.int .i64 rk,.int .u64 (rs:Int),.int .u64 (rcl:Int),.slice ra rx.length rcp,.int .u64 (rz:Int),.int .u64 (rc:Int)] 92;have r4:w4.cell? (aD w3.heap.size 4)=some (.int .u64 (rz:Int)):=hg4.cell 4;have r5:w4.cell? (aD w3.heap.size 5)=some (.int .u64 (rc:Int)):=hg4.cell 5;have t0:=cB hk4 n0;have t5:=cB hk4 n5;have HC4:Hid _:=bQ1 HC3.out hk4;have HJW:Hid (∀ x,_):=fun x=>joinWork_any k lz rz s x hlz hrz hz
  have HWL:Hid (workP k lz rz s<=topN):=workP_le _ _ _ _;have HS3:Hid (∀ (x:World) (m:Nat),m<=topN->_):=fun x m hm=>sum3 x lc rc m hlc hrc hm
  generalize workP k lz rz s=wk at *;clear q0 q1 q2 q3 q4 q5 hk4 hg4 h2' HPr hlz hlc hrz hrc hz;have HK:Hid _:=k345;clear k345;rcases HK.out with h | h | h
  ·subst h;clear HK;go_wp2;refine wp_region_held_drew (S:=fun x=>Below w4.heap.size w4 x) (by kernel_rfl) ((Below.refl _ _).drew) (fun hS=>?_);refine wT 0 (.pointer (some (aD w1.heap.size 5))) hS (fun x hx=>?_) ?_
   ·go_simp
   refine wT 1 (.int .u64 (lc:Int)) hS (fun x hx=>?_) ?_
   ·have e0:=cB hx t5;go_simp
   refine wT 2 (.pointer (some (aD w3.heap.size 5))) hS (fun x hx=>?_) ?_
   ·go_simp
   refine wT 3 (.int .u64 (rc:Int)) hS (fun x hx=>?_) ?_
   ·have e0:=cB hx r5;go_simp
   refine wT 4 (.pointer (some (aD w.heap.size 0))) hS (fun x hx=>?_) ?_
   ·go_simp
   refine wT 5 (.int .i64 3) hS (fun x hx=>?_) ?_
   ·have e0:=cB hx t0;go_simp
   refine wT 6 (.int .u64 (lz:Int)) hS (fun x hx=>?_) ?_
   ·go_simp
   refine wT 7 (.pointer (some (aD w3.heap.size 4))) hS (fun x hx=>?_) ?_
   ·go_simp
   refine wT 8 (.int .u64 (rz:Int)) hS (fun x hx=>?_) ?_
   ·have e0:=cB hx r4;go_simp
   refine wT 9 (.int .u64 (s:Int)) hS (fun x hx=>?_) ?_
   ·go_simp
   refine wR 10 fun K hK=>?_
   go_simp;refine Calls.mono (HJW.out _) ?_;rintro e w5 ⟨rfl,hb5⟩;refine hK.out _ _ (hS.trans (hb5.mono hS.size)) (fun hS=>?_);clear hK K;refine wR 11 fun K hK=>?_
   go_simp;refine hK.out _ _ (hS.trans (bQ2 _ _ |>.mono hS.size)) (fun hS=>?_);clear hK K;refine wR 12 fun K hK=>?_
   go_simp;refine Calls.mono (HS3.out w5 wk HWL.out) ?_;rintro e w6 ⟨rfl,hb6⟩;refine hK.out _ _ ((Below.trans (((Below.refl _ _).drew).trans (hb5.mono (by simp))) (hb6.mono (by have:=hb5.size; simp at this; omega)))) (fun hS=>?_);clear hK K;refine wR 13 fun K hK=>?_
   go_simp;refine hK.out _ _ hS (fun hS=>?_);clear hK K;refine wpAnyH_done (by kernel_rfl) ?_ _
   try simp only[pA,sB,sC]
   have HB:Hid _:=bQ1 HC4.out hS;rw[<- HV.out];clear hS hb5 hb6 HV;go_wp2;go_ret;exact⟨rfl,HB.out⟩
  ·subst h;clear HK;go_wp2;refine wp_region_held_drew (S:=fun x=>Below w4.heap.size w4 x) (by kernel_rfl) ((Below.refl _ _).drew) (fun hS=>?_);refine wT 0 (.pointer (some (aD w1.heap.size 5))) hS (fun x hx=>?_) ?_
   ·go_simp
   refine wT 1 (.int .u64 (lc:Int)) hS (fun x hx=>?_) ?_
   ·have e0:=cB hx t5;go_simp
   refine wT 2 (.pointer (some (aD w3.heap.size 5))) hS (fun x hx=>?_) ?_
   ·go_simp
   refine wT 3 (.int .u64 (rc:Int)) hS (fun x hx=>?_) ?_
   ·have e0:=cB hx r5;go_simp
   refine wT 4 (.pointer (some (aD w.heap.size 0))) hS (fun x hx=>?_) ?_
   ·go_simp
   refine wT 5 (.int .i64 4) hS (fun x hx=>?_) ?_
   ·have e0:=cB hx t0;go_simp
   refine wT 6 (.int .u64 (lz:Int)) hS (fun x hx=>?_) ?_
   ·go_simp
   refine wT 7 (.pointer (some (aD w3.heap.size 4))) hS (fun x hx=>?_) ?_
   ·go_simp
   refine wT 8 (.int .u64 (rz:Int)) hS (fun x hx=>?_) ?_
   ·have e0:=cB hx r4;go_simp
   refine wT 9 (.int .u64 (s:Int)) hS (fun x hx=>?_) ?_
   ·go_simp
   refine wR 10 fun K hK=>?_
   go_simp;refine Calls.mono (HJW.out _) ?_;rintro e w5 ⟨rfl,hb5⟩;refine hK.out _ _ (hS.trans (hb5.mono hS.size)) (fun hS=>?_);clear hK K;refine wR 11 fun K hK=>?_
   go_simp;refine hK.out _ _ (hS.trans (bQ2 _ _ |>.mono hS.size)) (fun hS=>?_);clear hK K;refine wR 12 fun K hK=>?_
   go_simp;refine Calls.mono (HS3.out w5 wk HWL.out) ?_;rintro e w6 ⟨rfl,hb6⟩;refine hK.out _ _ ((Below.trans (((Below.refl _ _).drew).trans (hb5.mono (by simp))) (hb6.mono (by have:=hb5.size; simp at this; omega)))) (fun hS=>?_);clear hK K;refine wR 13 fun K hK=>?_
   go_simp;refine hK.out _ _ hS (fun hS=>?_);clear hK K;refine wpAnyH_done (by kernel_rfl) ?_ _
   try simp only[pA,sB,sC]
   have HB:Hid _:=bQ1 HC4.out hS;rw[<- HV.out];clear hS hb5 hb6 HV;go_wp2;go_ret;exact⟨rfl,HB.out⟩
  ·subst h;clear HK;go_wp2;refine wp_region_held_drew (S:=fun x=>Below w4.heap.size w4 x) (by kernel_rfl) ((Below.refl _ _).drew) (fun hS=>?_);refine wT 0 (.pointer (some (aD w1.heap.size 5))) hS (fun x hx=>?_) ?_
   ·go_simp
   refine wT 1 (.int .u64 (lc:Int)) hS (fun x hx=>?_) ?_
   ·have e0:=cB hx t5;go_simp
   refine wT 2 (.pointer (some (aD w3.heap.size 5))) hS (fun x hx=>?_) ?_
   ·go_simp
   refine wT 3 (.int .u64 (rc:Int)) hS (fun x hx=>?_) ?_
   ·have e0:=cB hx r5;go_simp
   refine wT 4 (.pointer (some (aD w.heap.size 0))) hS (fun x hx=>?_) ?_
   ·go_simp
   refine wT 5 (.int .i64 5) hS (fun x hx=>?_) ?_
   ·have e0:=cB hx t0;go_simp
   refine wT 6 (.int .u64 (lz:Int)) hS (fun x hx=>?_) ?_
   ·go_simp
   refine wT 7 (.pointer (some (aD w3.heap.size 4))) hS (fun x hx=>?_) ?_
   ·go_simp
   refine wT 8 (.int .u64 (rz:Int)) hS (fun x hx=>?_) ?_
   ·have e0:=cB hx r4;go_simp
   refine wT 9 (.int .u64 (s:Int)) hS (fun x hx=>?_) ?_
   ·go_simp
   refine wR 10 fun K hK=>?_
   go_simp;refine Calls.mono (HJW.out _) ?_;rintro e w5 ⟨rfl,hb5⟩;refine hK.out _ _ (hS.trans (hb5.mono hS.size)) (fun hS=>?_);clear hK K;refine wR 11 fun K hK=>?_
   go_simp;refine hK.out _ _ (hS.trans (bQ2 _ _ |>.mono hS.size)) (fun hS=>?_);clear hK K;refine wR 12 fun K hK=>?_
   go_simp;refine Calls.mono (HS3.out w5 wk HWL.out) ?_;rintro e w6 ⟨rfl,hb6⟩;refine hK.out _ _ ((Below.trans (((Below.refl _ _).drew).trans (hb5.mono (by simp))) (hb6.mono (by have:=hb5.size; simp at this; omega)))) (fun hS=>?_);clear hK K;refine wR 13 fun K hK=>?_
   go_simp;refine hK.out _ _ hS (fun hS=>?_);clear hK K;refine wpAnyH_done (by kernel_rfl) ?_ _
   try simp only[pA,sB,sC]
   have HB:Hid _:=bQ1 HC4.out hS;rw[<- HV.out];clear hS hb5 hb6 HV;go_wp2;go_ret;exact⟨rfl,HB.out⟩
 rw[if_neg k345] at HV;have kb3:(k==3)=false:=by simp; omega
 have kb4:(k==4)=false:=by simp; omega
 have kb5:(k==5)=false:=by simp; omega
 by_cases k6:k=6∨k=10
 ·rw[if_pos k6] at HV;have HSW:Hid (∀ x,_):=fun x=>sortWork_any lz x hlz
  have HWL:Hid (timesN lz (bitsN lz+1)<=topN):=timesN_le _ _;have HS2:Hid (∀ (x:World) (m:Nat),m<=topN->_):=fun x m hm=>sum2 x lc m hlc hm
  generalize timesN lz (bitsN lz+1)=wk at *;clear h2' HPr hlz hlc hz k345;have HK:Hid _:=k6;clear k6;rcases HK.out with h | h
  ·subst h;clear HK;go_wp2;refine wp_region_held_drew (S:=fun x=>Below w3.heap.size w3 x) (by kernel_rfl) ((Below.refl _ _).drew) (fun hS=>?_);refine wT 0 (.pointer (some (aD w1.heap.size 5))) hS (fun x hx=>?_) ?_
   ·go_simp
   refine wT 1 (.int .u64 (lc:Int)) hS (fun x hx=>?_) ?_
   ·have e0:=cB hx n5;go_simp
   refine wT 2 (.int .u64 (lz:Int)) hS (fun x hx=>?_) ?_
   ·go_simp
   refine wR 3 fun K hK=>?_
   go_simp;refine Calls.mono (HSW.out _) ?_;rintro e w5 ⟨rfl,rfl⟩;refine hK.out _ _ (hS) (fun hS=>?_);clear hK K;refine wR 4 fun K hK=>?_
   go_simp;refine hK.out _ _ (hS.trans (bQ2 _ _ |>.mono hS.size)) (fun hS=>?_);clear hK K;refine wR 5 fun K hK=>?_
   go_simp;refine Calls.mono (HS2.out w3.drew wk HWL.out) ?_;rintro e w6 ⟨rfl,hb6⟩;refine hK.out _ _ ((((Below.refl _ _).drew).trans (hb6.mono (by simp)))) (fun hS=>?_);clear hK K;refine wR 6 fun K hK=>?_
   go_simp;refine hK.out _ _ hS (fun hS=>?_);clear hK K;refine wpAnyH_done (by kernel_rfl) ?_ _
   try simp only[pA,sB,sC]
   have HB:Hid _:=bQ1 HC3.out hS;rw[<- HV.out];clear hS hb6 HV;go_wp2;go_ret;exact⟨rfl,HB.out⟩
  ·subst h;clear HK;go_wp2;refine wp_region_held_drew (S:=fun x=>Below w3.heap.size w3 x) (by kernel_rfl) ((Below.refl _ _).drew) (fun hS=>?_);refine wT 0 (.pointer (some (aD w1.heap.size 5))) hS (fun x hx=>?_) ?_
   ·go_simp
   refine wT 1 (.int .u64 (lc:Int)) hS (fun x hx=>?_) ?_
   ·have e0:=cB hx n5;go_simp
   refine wT 2 (.int .u64 (lz:Int)) hS (fun x hx=>?_) ?_
   ·go_simp
   refine wR 3 fun K hK=>?_
   go_simp;refine Calls.mono (HSW.out _) ?_;rintro e w5 ⟨rfl,rfl⟩;refine hK.out _ _ (hS) (fun hS=>?_);clear hK K;refine wR 4 fun K hK=>?_
   go_simp;refine hK.out _ _ (hS.trans (bQ2 _ _ |>.mono hS.size)) (fun hS=>?_);clear hK K;refine wR 5 fun K hK=>?_
   go_simp;refine Calls.mono (HS2.out w3.drew wk HWL.out) ?_;rintro e w6 ⟨rfl,hb6⟩;refine hK.out _ _ ((((Below.refl _ _).drew).trans (hb6.mono (by simp)))) (fun hS=>?_);clear hK K;refine wR 6 fun K hK=>?_
   go_simp;refine hK.out _ _ hS (fun hS=>?_);clear hK K;refine wpAnyH_done (by kernel_rfl) ?_ _
   try simp only[pA,sB,sC]
   have HB:Hid _:=bQ1 HC3.out hS;rw[<- HV.out];clear hS hb6 HV;go_wp2;go_ret;exact⟨rfl,HB.out⟩
 rw[if_neg k6] at HV;have kb6:(k==6)=false:=by simp; omega
 have kb10:(k==10)=false:=by simp; omega
 by_cases k7:k=7
 ·rw[if_pos k7] at HV;subst k7;have hS3:=sum3 w3 lc lz lz hlc hlz hlz;rw[<- HV.out] at hS3;clear h2' HPr hlz hlc hz k345 k6 HV;go_wp2_with fail;refine hS3.mono ?_;clear hS3;rintro e w4 ⟨rfl,hb4⟩;have HB:Hid _:=bQ1 HC3.out hb4;clear hb4;go_wp2;go_ret;exact⟨rfl,HB.out⟩
 rw[if_neg k7] at HV;have kb7:(k==7)=false:=by simp; omega
 have hS2:=sum2 w3 lc lz hlc hlz;rw[<- HV.out] at hS2;clear h2' HPr hlz hlc hz k345 k6 k7 HV;go_wp2_with fail;refine hS2.mono ?_;clear hS2;rintro e w4 ⟨rfl,hb4⟩;have HB:Hid _:=bQ1 HC3.out hb4;clear hb4;go_wp2;go_ret;exact⟨rfl,HB.out⟩
end Go.Proofs.YtlpbelhfpoilpabGreatDoor
namespace Go.Scout
open Go.RowKit
theorem rising_lt {s n:Nat} (h:s<2 ^ n) {i:Nat} (hi:i∈risingN s):i<n:=by
 unfold risingN at hi;have hb:=(List.mem_filter.1 hi).2;rcases Nat.lt_or_ge i n with h' | h'
 ·exact h'
 ·have:s.testBit i=false:=Nat.testBit_lt_two_pow (Nat.lt_of_lt_of_le h (Nat.pow_le_pow_right (by omega) h'));rw[this] at hb
  cases hb
theorem div_fold_le (g:Nat->Nat):∀ (l:List Nat) (m:Nat),l.foldl (fun x c=>x / g c) m<=m
 | [],m => Nat.le_refl _
 | a::l,m => by
  rw[List.foldl_cons];exact Nat.le_trans (div_fold_le g l _) (Nat.div_le_self _ _)
theorem sizeP_le (ts:List TableD) (q:QueryV) (s c:Nat):sizeP ts q s c<=topN:=by
 unfold sizeP;have h1:=timesN_fold_le ((risingN s).map fun (k:Nat)=>rowsN ts q.src.xs (k:Int)) 1 (by unfold topN; omega);split
 ·exact Nat.zero_le _
 ·have:=div_fold_le (fun c=>partsN ts q.src.xs (q.wh.getD c lz).cs) (risingN c) (((risingN s).map fun (k:Nat)=>rowsN ts q.src.xs (k:Int)).foldl timesN 1);rw[Nat.max_def];split
  ·unfold topN; omega
  ·exact Nat.le_trans this h1
theorem costP_le (k:Int) (s lc ls rc rs:Nat):costP k s lc ls rc rs<=topN:=by
 unfold costP
 repeat' split
 all_goals exact sumN_le _
variable {α κ:Type} (E:El α κ)
def SeqB (P:Program) (g:Nat) (s:Value) (rows:List κ) (w0:World):Prop:=
 ∀ (l:Nat) (J:List α->(Nat->Prop)->World->Prop) (W:World) (o:Nat->Prop),
  Below w0.heap.size w0 W->(∀ b,o b->w0.heap.size<=b/\b<W.heap.size)->
  (∀ pre o1 A B,J pre o1 A->Kept (fun b=>o1 b∨b<W.heap.size) A B->J pre o1 B)->
  (∀ pre x o1 W1,J pre o1 W1->(pre++[x]).map E.key <+: rows->E.At x W1->(∀ b,E.blk x=some b->¬ o1 b/\(b<w0.heap.size∨W.heap.size<=b))->W.heap.size<=W1.heap.size->
   YieldAt Fence.wide 0 P l #[E.enc x] W1 fun e W'=>e=.returned (.bool true)/\∃ o2,J (pre++[x]) o2 W'/\Kept (fun b=>¬ o1 b) W1 W'/\
    ∀ b,o2 b->o1 b∨(W1.heap.size<=b/\b<W'.heap.size)∨(E.blk x=some b/\W.heap.size<=b))->
  J [] o W->
  Calls P g #[s,.func (.yield l) #[] #[]] W fun e W'=>(∃ v,e=.returned v)/\∃ ys o',ys.map E.key=rows/\J ys o' W'/\Kept (fun b=>¬ o b) W W'/\
   ∀ b,o' b->o b∨(W.heap.size<=b/\b<W'.heap.size)
theorem wp_rangeB {P:Program} {g:Operand} {ps:Array Tmp} {assign body:Code} {Q:Exit->Act->World->Prop} {a:Act} {w:World}
  {gf:Nat} {s:Value} (hg:a.eval g=.func (.func gf) #[s] #[]) (eg:∀ args w,(callFunc gf args).run P w=.ok (.enter gf args) w)
  {rows:List κ} {w0:World} (hseq:SeqB E P gf s rows w0) (hb0:Below w0.heap.size w0 w) (hps:ps.size=1)
  (I:List α->(Nat->Prop)->World->Prop) (o:Nat->Prop) (ho:∀ b,o b->w0.heap.size<=b/\b<w.heap.size)
  (hI:∀ pre o1 A B,I pre o1 A->Kept (fun b=>o1 b∨b<w.heap.size) A B->I pre o1 B) (h0:I [] o w) (a₁:α->Act)
  (hassign:∀ (l:Nat) (x:α) (W:World) (K:Act->World->Prop),K (a₁ x) W->
   assign.wpIn (Fence.wide.inRound l) 0 P (Exit.then K (fun _ _ _=>False)) { tmps:=(ps.zip #[E.enc x]).foldl (fun t (p,v)=>t.setIfInBounds p v) a.tmps,defers:=[] } W)
  (hbody:∀ (l:Nat) (pre:List α) (x:α) (o1:Nat->Prop) (W:World),I pre o1 W->(pre++[x]).map E.key <+: rows->E.At x W->
   (∀ b,E.blk x=some b->¬ o1 b/\(b<w0.heap.size∨w.heap.size<=b))->w.heap.size+2<=W.heap.size->
   body.wpIn (Fence.wide.inRound l) 0 P (roundKeeps E I pre x w.heap.size o1 W) (a₁ x) W)
  (hdone:∀ (ys:List α) (o':Nat->Prop) (W:World),ys.map E.key=rows->I ys o' W->Kept (fun b=>¬ o b) w W->(∀ b,o' b->(o b∨(w.heap.size+2<=b/\b<W.heap.size)))->
   W.heap[w.heap.size]? = some (.deferred (some []))->Q .normal { a with defers:={ target:=.collected w.heap.size,args:=#[] } :: a.defers } W) :
  (Code.rangeFunc g ps assign body).wpIn Fence.wide 0 P Q a w:=by
 refine wpIn_rangeFunc ?_;intro fn hfn;obtain⟨rec,hrec⟩:∃ rec:LoopState->Option Code->Loop,rec=fun st pe=>{ state:=st,pending:=pe,fn,tmps:=a.tmps,params:=ps,assign,body,defers:=w.heap.size }:=⟨_,rfl⟩
 obtain⟨W1,hW1⟩:∃ W1,(w.alloc (.deferred (some []))).alloc (.loop (rec .ready none))=W1:=⟨_,rfl⟩
 have hs1:W1.heap.size=w.heap.size+2:=by rw[<- hW1]; simp
 have hL1:W1.heap[w.heap.size+1]? = some (.loop (rec .ready none)):=by
  rw[<- hW1]; have:=World.alloc_heap_new (w.alloc (.deferred (some []))) (.loop (rec .ready none)); rwa [World.size_alloc] at this
 have hD1:W1.heap[w.heap.size]? = some (.deferred (some [])):=by
  rw[<- hW1]; exact (Below.heap_alloc _ _ _ (by simp)).trans (World.alloc_heap_new w _)
 have hk1:∀ s,Kept s w W1:=fun s=>by rw[<- hW1]; exact (Kept.alloc _ _).trans (Kept.alloc _ _)
 have hbw:Below w0.heap.size w0 W1:=hb0.trans ((hk1 (fun _=>True)).below hb0.size (fun _ _=>trivial));refine⟨w.heap.size+1,[{ target:=.collected w.heap.size,args:=#[] }],W1,{ target:=.fn (.func gf) #[],args:=#[s,.func (.yield (w.heap.size+1)) #[] #[]] },W1,gf,
  #[s,.func (.yield (w.heap.size+1)) #[] #[]],W1,?_,?_,?_,?_,fun h=>by simp[Fence.wide] at h,?_⟩
 ·rw[<- hW1,hrec]; exact run_enterLoop_outer _ _ _ _ _
 ·simp only[resolve,hg];simp[go_sem]
 ·intro f' _; trivial
 ·simp[invoke,go_sem,eg]
 ·refine callsIn_wide.2 ((hseq (w.heap.size+1)
   (fun pre o' W=>∃ o1,I pre o1 W/\(∀ b,o' b↔o1 b∨b=w.heap.size∨b=w.heap.size+1)/\¬ o1 w.heap.size/\¬ o1 (w.heap.size+1)/\
    W.heap[w.heap.size+1]? = some (.loop (rec .ready none))/\W.heap[w.heap.size]? = some (.deferred (some [])))
   W1 (fun b=>o b∨b=w.heap.size∨b=w.heap.size+1) hbw ?_ ?_ ?_ ?_).mono ?_)
  ·rintro b (hb | rfl | rfl)
   ·exact⟨(ho b hb).1,by have:=(ho b hb).2; omega⟩
   ·exact⟨hb0.size,by omega⟩
   ·exact⟨by have:=hb0.size; omega,by omega⟩
  ·rintro pre o' A B ⟨o1,hi,ho',hn,hn',hl,hd⟩ hk;have hlA:=(Array.getElem?_eq_some_iff.1 hl).1;have hdA:=(Array.getElem?_eq_some_iff.1 hd).1;refine⟨o1,hI pre o1 A B hi (hk.mono fun b _ hb=>?_),ho',hn,hn',(hk.block _ hlA (.inl ((ho' _).2 (.inr (.inr rfl))))).trans hl,(hk.block _ hdA (.inl ((ho' _).2 (.inr (.inl rfl))))).trans hd⟩;rcases hb with hb | hb
   ·exact .inl ((ho' b).2 (.inl hb))
   ·exact .inr (by omega)
  ·rintro pre x o' W ⟨o1,hi,ho',hn,hn',hl,hd⟩ hpre hx hoff hsz;have hlt:w.heap.size+1<W.heap.size:=(Array.getElem?_eq_some_iff.1 hl).1;have hlt':w.heap.size<W.heap.size:=by omega
   have hy:=run_yield (P:=P) (args:=#[E.enc x]) hl (by rw[hrec]; exact hps.symm);rw[hrec] at hy;refine⟨fn,_,assign,body,hy,roundIn_of_wpIn hfn (hassign _ x W _ ⟨_,run_beginRound hl (by rw[hrec]),?_⟩)⟩;obtain⟨W2,hW2⟩:∃ W2,W.putObj (w.heap.size+1) (.loop { rec .ready none with state:=.busy })=W2:=⟨_,rfl⟩
   have hk2:Kept (fun b=>b≠w.heap.size+1) W W2:=by rw[<- hW2]; exact Kept.putObj _ _ (fun h=>h rfl)
   have hl2:W2.heap[w.heap.size+1]? = some (.loop { rec .ready none with state:=.busy }):=by rw[<- hW2]; exact World.putObj_heap_same hlt
   have hd2:W2.heap[w.heap.size]? = some (.deferred (some [])):=(hk2.block _ hlt' (by omega)).trans hd;have hs2:W2.heap.size=W.heap.size:=by rw[<- hW2]; simp
   have hI2:I pre o1 W2:=hI pre o1 W W2 hi (hk2.mono fun b _ hb=>by
    rcases hb with hb | hb
    ·intro e; exact hn' (e ▸ hb)
    ·omega)
   have hx2:E.At x W2:=E.keep hx hk2.size (fun b hb hbx=>hk2.block b hb (fun e=>(hoff b hbx).1 ((ho' b).2 (.inr (.inr e)))));rw[hW2];rw[hrec] at hl2;refine wpIn_mono (hbody _ pre x o1 W2 hI2 hpre hx2 (fun b hb=>⟨fun h=>(hoff b hb).1 ((ho' b).2 (.inl h)),(hoff b hb).2.imp id (by omega)⟩) (by omega)) ?_;rintro e a3 W3 hp
   cases e with
   | normal =>
    obtain⟨o2,hi3,hk3,hg3⟩:=hp;have hl3:W3.heap[w.heap.size+1]? = some (.loop { state:=.busy,pending:=none,fn,tmps:=a.tmps,params:=ps,assign,body,defers:=w.heap.size }):=(hk3.block _ (by omega) hn').trans hl2;have hlt3:=(Array.getElem?_eq_some_iff.1 hl3).1;have hd3:W3.heap[w.heap.size]? = some (.deferred (some [])):=(hk3.block _ (by omega) hn).trans hd2;have hno:∀ b,b=w.heap.size∨b=w.heap.size+1->¬ o2 b:=fun b hb h=>by
     rcases hg3 b h with h | h | ⟨h,_⟩
     ·rcases hb with rfl | rfl
      ·exact hn h
      ·exact hn' h
     ·omega
     ·exact (hoff b h).1 ((ho' b).2 (.inr hb))
    refine⟨_,_,run_endRound none hl3,rfl,fun b=>o2 b∨b=w.heap.size∨b=w.heap.size+1,⟨o2,hI _ o2 W3 _ hi3 (Kept.putObj _ _ ?_),fun b=>Iff.rfl,hno _ (.inl rfl),hno _ (.inr rfl),?_,?_⟩,?_,?_⟩
    ·rintro (h | h)
     ·exact hno _ (.inr rfl) h
     ·omega
    ·rw[World.putObj_heap_same hlt3,hrec]; rfl
    ·exact (World.putObj_heap_other (by omega)).trans hd3
    ·refine ((hk2.mono ?_).trans' (hk3.mono ?_) (fun _ _ h=>h)).trans (Kept.putObj _ _ ?_)
     ·intro b _ h e; exact h ((ho' b).2 (.inr (.inr e)))
     ·intro b _ h h'; exact h ((ho' b).2 (.inl h'))
     ·intro h; exact h ((ho' _).2 (.inr (.inr rfl)))
    ·rintro b (h | h)
     ·rcases hg3 b h with h | h | h
      ·exact .inl ((ho' b).2 (.inl h))
      ·exact .inr (.inl ⟨by omega,by rw[World.putObj_size]; omega⟩)
      ·exact .inr (.inr ⟨h.1,by
        rcases (hoff b h.1).2 with h' | h'
        ·have:=h.2; have:=hb0.size; omega
        ·exact h'⟩)
     ·exact .inl ((ho' b).2 (.inr h))
   | ret => exact hp.elim
   | exit id => exact hp.elim
   | goto t => exact hp.elim
   | panic ch => exact hp.elim
   | outgrown => exact hp.elim
  ·have hno:∀ b,b=w.heap.size∨b=w.heap.size+1->¬ o b:=fun b hb h=>by have:=(ho b h).2; omega
   exact⟨o,hI _ _ _ _ h0 (hk1 _),fun _=>Iff.rfl,hno _ (.inl rfl),hno _ (.inr rfl),hL1,hD1⟩
  ·rintro e W2 ⟨⟨v,rfl⟩,ys,o',hys,⟨o1,hi,ho',hn,hn',hl,hd⟩,hk,hg⟩;have hlt:=(Array.getElem?_eq_some_iff.1 hl).1;refine⟨none,_,by have:=run_endLoop (P:=P) hl (by rw[hrec]; simp); rw[hrec] at this; exact this,hdone ys o1 _ hys (hI _ _ _ _ hi (Kept.putObj _ _ ?_)) ?_ ?_ ((World.putObj_heap_other (by omega)).trans hd)⟩
   ·rintro (h | h)
    ·exact hn' h
    ·omega
   ·refine (Kept.trans' (hk1 _) (hk.mono fun b _ h=>h) ?_).trans (Kept.putObj _ _ ?_) |>.mono (s:=fun b=>¬ o b/\b<w.heap.size) ?_
    ·rintro b _ ⟨h,hb⟩ (h' | h' | h')
     ·exact h h'
     ·omega
     ·omega
    ·rintro⟨_,h⟩; omega
    ·exact fun b hb h=>⟨h,hb⟩
   ·intro b hb;rcases hg b ((ho' b).2 (.inl hb)) with (h | h | h) | h
    ·exact .inl h
    ·exact absurd (h ▸ hb) hn
    ·exact absurd (h ▸ hb) hn'
    ·exact .inr ⟨by omega,by rw[World.putObj_size]; exact h.2⟩
def numEl:El Nat Nat where
 enc k:=.int .i64 (k:Int)
 At _ _:=True
 blk _:=none
 key k:=k
 keep:=fun _ _ _=>trivial
 inn:=fun _ h=>by cases h
def riseTo (s k:Nat):List Nat:=(List.range k).filter fun i=>s.testBit i
theorem riseTo_succ (s k:Nat):riseTo s (k+1)=riseTo s k++if s.testBit k=true then [k] else []:=by
 unfold riseTo;rw[List.range_succ,List.filter_append]
 cases h:s.testBit k <;> simp[h]
theorem riseTo_pre (s:Nat) {k:Nat} (hk:k<=64):riseTo s k <+: risingN s:=by
 have e:List.range 64=List.range k++(List.range (64-k)).map (k + ·):=by
  rw[<- List.range_add];congr 1;omega
 unfold riseTo risingN;rw[e,List.filter_append];exact List.prefix_append _ _
theorem riseTo_all (s:Nat) {k:Nat} (hk:k<=64) (h:s / 2 ^ k=0):riseTo s k=risingN s:=by
 symm;refine range_filter hk _ (fun i hi=>?_);have h2:s<2 ^ k:=by
  rcases Nat.lt_or_ge s (2 ^ k) with h' | h'
  ·exact h'
  ·have:=Nat.div_pos h' (Nat.pow_pos (by omega));omega
 exact Nat.testBit_lt_two_pow (Nat.lt_of_lt_of_le h2 (Nat.pow_le_pow_right (by omega) hi))
theorem shift_some {s k:Nat} (hs:s<18446744073709551616) (h:s / 2 ^ k≠0):k<64:=by
 rcases Nat.lt_or_ge k 64 with h' | h'
 ·exact h'
 ·exfalso;apply h;apply Nat.div_eq_of_lt;exact Nat.lt_of_lt_of_le hs (Nat.pow_le_pow_right (n:=2) (by omega) h')
end Go.Scout
namespace Go.Proofs.YtlpbelhfpoilpabGreatDoor
open Go.RowKit Go.Scout Go.Shelf
attribute [local go_sem] Oper.semAt_some
theorem rising_seq (s:Nat) (hs:s<18446744073709551616) (w0:World):SeqB numEl Tryz.prog 42 (.int .u64 (s:Int)) (risingN s) w0:=by
 intro l J W o hW ho hJ hY h0;have HY:Hid _:=hY;have HO:Hid _:=ho;have HW:Hid _:=hW;have HST:Hid _:=@riseTo_succ s;have HSP:Hid _:=@riseTo_pre s;have HSA:Hid _:=@riseTo_all s;have HH:Hid (∀ n x,n<64->_):=fun n x hn=>setHas_any s n hs hn x
 have HSS:Hid (∀ k,s / 2 ^ k≠0->k<64):=fun k h=>shift_some hs h
 have HR0:Hid (riseTo s 0=[]):=rfl;clear hY ho hW hJ;generalize riseTo s=RT at *;refine (callsIn_wide (n:=0)).1 (callsIn_of_wp Tryz.func42 rfl trivial ?_ rfl);simp only[Tryz.ntmps42,List.size_toArray,List.length_cons,List.length_nil,Nat.reduceAdd,Nat.reduceSub,Array.replicate_succ,Array.replicate_zero,List.push_toArray,List.append_toArray,List.nil_append,List.cons_append]
 gi_wp2
 gi_loopw [4] (fun i wr=>∃ k:Nat,k<=64/\i=.int .i64 k/\∃ o1,Hid (J (RT k) o1 wr)/\Hid (Kept (fun b=>¬ o b) W wr)/\Hid (∀ b,o1 b->o b∨(W.heap.size<=b/\b<wr.heap.size)))
  (fun i _=>64-(intOf i).toNat)
 case atStart=>exact⟨0,Nat.zero_le _,rfl,o,by rw[HR0.out]; exact h0,Kept.refl _ _,fun b h=>.inl h⟩
 case round=>
  obtain⟨k,hk,rfl,o1,hJs,hkw,ho1⟩:=hrel;by_cases hz:s / 2 ^ k=0
  ·have HE:Hid _:=HSA.out hk hz;have hzb:((s:Int) / 2 ^ k != 0)=false:=by
    have e:((s:Int) / 2 ^ k)=((s / 2 ^ k:Nat):Int):=by simp
    rw[e,hz]; rfl
   clear hz
   gi_wp2
   go_end0;exact⟨⟨_,rfl⟩,risingN s,o1,by simp[numEl],by rw[<- HE.out]; exact hJs.out,hkw.out,ho1.out⟩
  ·have hk64:=HSS.out k hz;have hzb:((s:Int) / 2 ^ k != 0)=true:=by
    have e:((s:Int) / 2 ^ k)=((s / 2 ^ k:Nat):Int):=by simp
    rw[e,bne_iff_ne]; omega
   have HT:Hid _:=HST.out k;have HP:Hid (RT (k+1) <+: risingN s):=HSP.out (by omega);have hH:=HH.out k wr hk64;clear hz HST HSP HSA HH HSS HR0
   cases hb:s.testBit k with
   | false =>
    rw[hb] at hH HT;clear hb
    gi_wp2
    refine⟨trivial,rfl,callsIn_wide.2 (hH.mono ?_)⟩;rintro e W3 ⟨rfl,rfl⟩
    gi_wp2
    refine⟨(fun _ h=>by cases h),?_⟩
    gi_wp2
    go_roundw
    case rel=>exact⟨k+1,by omega,by go_num,o1,by have h:RT (k+1)=RT k++[]:=HT.out; rw[h,List.append_nil]; exact hJs.out,hkw.out,ho1.out⟩
    case measure=>simp[intOf]; omega
   | true =>
    rw[hb] at hH HT;clear hb;have HT':Hid (RT (k+1)=RT k++[k]):=HT.out;obtain⟨fn,tmps,assign,body,hy,hR⟩:=HY.out (RT k) k o1 wr hJs.out (by rw[<- HT'.out]; simpa [numEl] using HP.out) trivial (fun b h=>by cases h) hkw.out.size;have hy':(Instr.yield l #[.int .i64 (k:Int)]).run Tryz.prog wr=.ok (.round l fn tmps assign body) wr:=hy;clear hy HT HP HY
    gi_wp2
    refine⟨trivial,rfl,callsIn_wide.2 (hH.mono ?_)⟩;rintro e W3 ⟨rfl,rfl⟩
    gi_wp2
    refine⟨rfl,hR.mono ?_⟩;rintro e W3 ⟨rfl,o2,hJ3,hk3,hg3⟩;have HJ3:Hid _:=hJ3;have HK3:Hid _:=hk3;have HG3:Hid _:=hg3;clear hJ3 hk3 hg3
    gi_wp2
    go_roundw
    case rel=>
     refine⟨k+1,by omega,by go_num,o2,by rw[HT'.out]; exact HJ3.out,hkw.out.trans' HK3.out ?_,?_⟩
     ·intro b hb h h';rcases ho1.out b h' with h' | h'
      ·exact h h'
      ·omega
     ·intro b hb;have:=HK3.out.size;have:=hkw.out.size;rcases HG3.out b hb with h | h | h
      ·rcases ho1.out b h with h | h
       ·exact .inl h
       ·exact .inr ⟨h.1,by omega⟩
      ·exact .inr ⟨by omega,h.2⟩
      ·cases h.1
    case measure=>simp[intOf]; omega
open Go.RowKit Go.Scout
theorem firstOf64_any (n:Nat) (hn:n<=64) (w:World) :
  Calls Tryz.prog 45 #[.int .i64 (n:Int)] w fun e w'=>e=.returned (.int .u64 ((2 ^ n-1:Nat):Int))/\w' = w:=by
 rcases Nat.lt_or_ge n 64 with h | h
 ·exact firstOf_any n h w
 ·obtain rfl:n=64:=by omega
  go_enter Tryz.func45,Tryz.ntmps45;go_wp2;go_ret;exact⟨rfl,rfl⟩
end Go.Proofs.YtlpbelhfpoilpabGreatDoor
namespace Go.Scout
open Go.RowKit
theorem opIn_round {P:Program} {ops:Array Oper} {Q:Exit->Act->World->Prop} {l:Nat} (hd:∀ o∈ops,∀ c,o.op ≠ .defer c) {i:Nat} {K K':Act->World->Prop} (hK:∀ a w,K a w->K' a w) {a:Act} {w:World} (h:wpOpIn Fence.wide 0 P ops Q i K a w):wpOpIn (Fence.wide.inRound l) 0 P ops Q i K' a w:=by
 unfold wpOpIn at *
 cases ho:ops[i]? with
 | none => rw[ho] at h; exact hK _ _ h
 | some o =>
  rw[ho] at h;simp only at *;have hm:o∈ops:=Array.mem_of_getElem? ho;by_cases hw:Region.wanted o (yielded ops a.tmps)=true
  ·rw[if_pos hw] at *;unfold Oper.wpIn at *;refine⟨h.1,?_⟩;have h2:=h.2;rw[Oper.semAt_plain Fence.wide _ _ (hd o hm)] at h2;rw[Oper.semAt_plain (Fence.wide.inRound l) _ _ (hd o hm)];generalize Sem.run P (execOp a.eval o) w=r at *;unfold Oper.uponIn at *;split at h2
   ·exact hK _ _ h2
   ·exact hK _ _ h2
   ·exact hK _ _ h2
   ·exact⟨h2.1,h2.2.mono (fun e w' he=>by
     cases e with
     | returned v => exact hK _ _ he
     | panicked c => exact he
     | outgrown => exact he)⟩
   ·exact⟨h2.1,h2.2.mono (fun v w' he=>hK _ _ he)⟩
   ·exact⟨h2.1,h2.2.mono (fun e w' he=>by
     cases e with
     | returned v => exact hK _ _ he
     | panicked c => exact he
     | outgrown => exact he)⟩
   ·exact h2
   ·exact h2.elim
  ·rw[if_neg hw] at *;exact⟨h.1,hK _ _ h.2⟩
theorem anyIn_round {P:Program} {md:Region.Mode} {ops:Array Oper} {Q:Exit->Act->World->Prop} {l:Nat} (hd:∀ o∈ops,∀ c,o.op ≠ .defer c):∀ (fuel:Nat) (listed:Array Bool) (a:Act) (w:World),
  wpAnyIn Fence.wide 0 P md ops Q fuel listed a w->wpAnyIn (Fence.wide.inRound l) 0 P md ops Q fuel listed a w
 | 0,_,_,_,h => h
 | fuel+1,listed,a,w,h => ⟨h.1,fun i hi => opIn_round hd (fun a' w' h' => anyIn_round hd fuel _ a' w' h') (h.2 i hi)⟩
def noDefer (ops:Array Oper):Bool:=ops.all fun o=>match o.op with | .defer _=>false | _=>true
theorem noDefer_spec {ops:Array Oper} (h:noDefer ops=true):∀ o∈ops,∀ c,o.op ≠ .defer c:=by
 intro o ho c hc;unfold noDefer at h;rw[Array.all_eq_true_iff_forall_mem] at h;have:=h o ho;rw[hc] at this;simp at this
theorem step_append {P:Program} {ops:Array Oper} {o:Oper} {a:Act} {w:World} {K:Act->World->Prop} {Q:Exit->Act->World->Prop} {E:Prop} (hgd:o.guard=none) (s x:Operand) (t:TypeId)
  (ho:o.op=.call { callee:=.builtin .append,args:=#[s,x],argTypes:=#[t,t] }) (v u v':Value) (w':World) (hs:a.eval s=v) (hx:a.eval x=u)
  (hrun:(Builtin.append_ #[t,t] o.type #[v,u]).run P w=.ok v' w') (h:K (a.put o.dst v') w'):if Region.wanted o (yielded ops a.tmps)=true then Oper.wp P o a w K Q else E:=by
 have hw:Region.wanted o (yielded ops a.tmps)=true:=by simp[Region.wanted,hgd]
 rw[if_pos hw];unfold Oper.wp;simp[execOp,ho,resolve,invoke,builtin,hs,hx,hrun,Result.andThen];exact h
end Go.Scout
