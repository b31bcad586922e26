import Derived.Test.YtlpbelhfpoilpabGreatDoorC21
import Derived.Test.YtlpbelhfpoilpabGreatDoorC24
import Derived.Test.YtlpbelhfpoilpabGreatDoorC28
set_option linter.all false
set_option maxRecDepth 100000
set_option maxHeartbeats 16000000
namespace Go.Scout
open Go.RowKit
theorem addedN_len (ls:List (List Int)) (l:List Int):(addedN ls l).length<=ls.length+1:=by
 unfold addedN;split <;> simp
theorem addedN_head {ls:List (List Int)} {l:List Int} (h:∃ r,ls=[]::r):∃ r,addedN ls l=[]::r:=by
 obtain⟨r,rfl⟩:=h;unfold addedN;split
 ·exact⟨r,rfl⟩
 ·exact⟨r++[l],rfl⟩
theorem usefulC_len (ts:List TableD) (q:QueryV) (s:Nat) (acc:List (List Int)) (c:Int):(usefulC ts q s acc c).length<=acc.length+1:=by
 unfold usefulC;split
 ·exact addedN_len _ _
 ·omega
theorem usefulC_head {ts:List TableD} {q:QueryV} {s:Nat} {acc:List (List Int)} (c:Int) (h:∃ r,acc=[]::r):∃ r,usefulC ts q s acc c=[]::r:=by
 unfold usefulC;split
 ·exact addedN_head h
 ·exact h
theorem useful_ok (ts:List TableD) (q:QueryV) (s:Nat):∀ (l:List ClauseV) (acc:List (List Int)),(∃ r,acc=[]::r)->(∃ r,l.foldl (usefulS ts q s) acc=[]::r)/\(l.foldl (usefulS ts q s) acc).length<=acc.length+2*l.length
 | [],acc,h => ⟨h,by simp⟩
 | c::l,acc,h => by
  have hs:(∃ r,usefulS ts q s acc c=[]::r)/\(usefulS ts q s acc c).length<=acc.length+2:=by
   unfold usefulS;split
   ·refine⟨usefulC_head _ (usefulC_head _ h),?_⟩;have h1:=usefulC_len ts q s acc (eqCols c.cs).1;have h2:=usefulC_len ts q s (usefulC ts q s acc (eqCols c.cs).1) (eqCols c.cs).2.1;omega
   ·exact⟨h,by omega⟩
  have:=useful_ok ts q s l _ hs.1;refine⟨this.1,Nat.le_trans this.2 ?_⟩;simp only[List.length_cons];omega
theorem usefulN_ok (ts:List TableD) (q:QueryV) (s:Nat) (h8:q.wh.length<=8):(∃ r,usefulN ts q s=[]::r)/\(usefulN ts q s).length<=18:=by
 have h0:∃ r,(if coversB s (setN (srcL ts q (endOrderN q)))=true then addedN [[]] (endOrderN q) else [[]])=[]::r:=by
  split
  ·exact addedN_head ⟨[],rfl⟩
  ·exact⟨[],rfl⟩
 have h1:(if coversB s (setN (srcL ts q (endOrderN q)))=true then addedN [[]] (endOrderN q) else [[]]).length<=2:=by
  split
  ·exact addedN_len _ _
  ·simp
 have:=useful_ok ts q s q.wh _ h0;exact⟨this.1,Nat.le_trans this.2 (by omega)⟩
theorem Env.endOk {f:FactsV} {ts:List TableD} {q:QueryV} {W0:World} (E:Env f ts q W0):ColOk ts q (endOrderN q):=by
 unfold endOrderN;split
 ·exact E.keys
 ·rename_i hg
  split
  ·exact E.want (by simpa using hg)
  ·intro c hc; cases hc
theorem OrdsIn.fz {Tl:TypeId} {F:Nat->Prop} {base:Nat} {W0 w:World} {v:Value} {os:List IntsV} (h:OrdsIn Tl F base w v os) (hz:Fz F W0 w) (hb:W0.heap.size<=base):Fz (Fv F v) W0 w:=hz.own fun g e=>⟨Nat.le_trans hb (ownsRow_lt h.own e).1,(ownsRow_lt h.own e).2⟩
theorem ints_one {F:Nat->Prop} {w:World} {cb:Nat} {c:Int} (hc:w.cell? (aD cb 0)=some (.int .i64 c)) (hF:F cb):IntsIn F w ⟨some (aD cb 0),1,[c]⟩:=
 ⟨⟨by simp,fun i hi=>⟨cb,0,rfl,by
  have:i=0:=by simpa using hi
  subst this;exact hc⟩⟩,fun _ a e=>by cases e; exact hF,(fun e=>by cases e),Nat.le_refl _⟩
theorem cell_keepO {w w':World} {v:Value} (hk:Kept (fun b=>v.ownBlock≠some b) w w') {b o:Nat} {u:Value} (h:w.cell? (aD b o)=some u) (hs:v.ownBlock≠some b):w'.cell? (aD b o)=some u:=by
 rw[World.cell?_of_block (hk.block b (cell_lt h) hs)];exact h
end Go.Scout
namespace Go.Proofs.YtlpbelhfpoilpabGreatDoor
open Go.RowKit Go.Scout Go.Shelf
def StepO (F:Nat->Prop) (w1:World) (ls:List (List Int)) (v:Value) (w':World):Prop:=∃ os,OrdsIn 22 F w1.heap.size w' v os/\os.map IntsV.xs=ls/\os.length<=100/\Below w1.heap.size w1 w'
theorem addO {F:Nat->Prop} {w1 w:World} {ls:List (List Int)} {v:Value} (h:StepO F w1 ls v w) (hl:ls.length<=50) (o:IntsV) (ho:IntsIn (Fv F v) w o) (hol:o.xs.length<=1000) :
  Calls Tryz.prog 69 #[v,.slice o.ad o.xs.length o.cap] w fun e w'=>∃ v',e=.returned v'/\(∃ a m c,v' = .slice a m c)/\StepO F w1 (addedN ls o.xs) v' w'/\Kept (fun b=>v.ownBlock≠some b) w w'/\(v'.ownBlock=v.ownBlock∨∃ g,v'.ownBlock=some g/\w.heap.size<=g):=by
 obtain⟨os,h1,h2,h3,h4⟩:=h;have hlen:os.length<=50:=by have:=congrArg List.length h2; rw[List.length_map] at this; omega
 refine (added_any h1 h4.size o ho hol (by omega)).mono ?_;rintro e w' ⟨v',os',rfl,g1,g2,g3,g4,g5⟩;exact⟨v',rfl,ownsRow_slice g1.own,⟨os',g1,by rw[g2,h2],by omega,h4.trans (g4.below h4.size (fun b hb e=>by have:=(ownsRow_lt h1.own e).1; omega))⟩,g4,g5⟩
theorem StepO.below {F:Nat->Prop} {w1 w w':World} {ls:List (List Int)} {v:Value} (h:StepO F w1 ls v w) (hb:Below w.heap.size w w'):StepO F w1 ls v w':=by
 obtain⟨os,h1,h2,h3,h4⟩:=h;exact⟨os,h1.below hb,h2,h3,bQ1 h4 hb⟩
theorem usefulOrders_any {F:Nat->Prop} {W0 w:World} {f:FactsV} {ts:List TableD} {q:QueryV} (E:Env f ts q W0) (hz:Fz F W0 w) (s:Nat) (hs:s<18446744073709551616) :
  Calls Tryz.prog 40 #[.agg (f.cells ts q),.int .u64 (s:Int)] w fun e w'=>∃ v os,e=.returned v/\OrdsIn 22 F w.heap.size w' v os/\os.map IntsV.xs=usefulN ts q s/\Below w.heap.size w w':=by
 obtain⟨v0,v1,v2,v3,v4,v5,v6,v7,v8,v9,v10,v11,v12,hFC,hv0,hv1,hv2,hv3,hv4,hv5,hv6,-⟩:=factsCells f ts q;subst hv1;have hQC:q.cells=#[v0,.slice q.wad q.wh.length q.wcap,v2,v3,v4,v5,v6]:=by rw[hv0,hv2,hv3,hv4,hv5,hv6]; rfl
 have HEO:Hid (∀ (G:Nat->Prop) x,Fz G W0 x->Calls Tryz.prog 66 #[.agg #[v0,.slice q.wad q.wh.length q.wcap,v2,v3,v4,v5,v6]] x (IntsPost G x (endOrderN q))):=fun G x hx=>by
  rw[<- hQC];exact endOrder_any E hx
 have HSO:Hid (∀ (x:World) (iv:IntsV),Below w.heap.size w x->iv.At x->ColOk ts q iv.xs->Calls Tryz.prog 68 #[.agg #[v0,.slice q.wad q.wh.length q.wcap,v2,v3,v4,v5,v6,v7,v8,v9,v10,v11,v12],.slice iv.ad iv.xs.length iv.cap] x fun e w'=>e=.returned (.int .u64 ((setN (srcL ts q iv.xs):Nat):Int))/\Below x.heap.size x w'):=fun x iv hx hi hc=>by
  rw[<- hFC];exact sourcesOf_any f ts q iv.ad iv.cap iv.xs x E.ok ((E.at' hz).below hx).cols hi hc
 have HCV:Hid (∀ (xs:List Int) (x:World),ColOk ts q xs->Calls Tryz.prog 67 #[.int .u64 (s:Int),.int .u64 ((setN (srcL ts q xs):Nat):Int)] x fun e w'=>e=.returned (.bool (coversB s (setN (srcL ts q xs))))/\w' = x):=fun xs x hc=>covers_any s _ hs (by have:=srcL_lt E.ok hc xs.length; rwa [List.take_length] at this) x
 have HEC:Hid (∀ (k:Nat) (x:World),k<q.wh.length->Below w.heap.size w x->x.cell? ⟨(q.wad.getD (aD 0 0)).block,(q.wad.getD (aD 0 0)).off+k,none⟩=some (.slice (q.wh.getD k lz).ad (q.wh.getD k lz).cs.length (q.wh.getD k lz).cap)/\(∃ b off,q.wad=some (aD b off))/\Calls Tryz.prog 70 #[.agg #[.slice (q.wh.getD k lz).ad (q.wh.getD k lz).cs.length (q.wh.getD k lz).cap]] x fun e w'=>e=.returned (.tuple #[.int .i64 (eqCols (q.wh.getD k lz).cs).1,.int .i64 (eqCols (q.wh.getD k lz).cs).2.1,.bool (eqCols (q.wh.getD k lz).cs).2.2])/\Below x.heap.size x w'):=fun k x hk hx=>by
  have hq:=((E.at' hz).below hx).query.wh;obtain⟨b,off,e,hc⟩:=hq.2.1 k hk;refine⟨?_,⟨b,off,e⟩,equalColumns_any _ _ _ x (hq.2.2 k hk) (E.ok.some k hk)⟩;rw[e];exact hc
 have HEK:Hid (∀ k,k<q.wh.length->(eqCols (q.wh.getD k lz).cs).2.2=true->ColOk ts q [(eqCols (q.wh.getD k lz).cs).1]/\ColOk ts q [(eqCols (q.wh.getD k lz).cs).2.1]):=fun k hk h=>eqCols_ok E.ok hk h
 obtain⟨I0,hI0⟩:∃ I,I=(if coversB s (setN (srcL ts q (endOrderN q)))=true then addedN [[]] (endOrderN q) else [[]]):=⟨_,rfl⟩
 have hI0l:I0.length<=2:=by
  rw[hI0];split
  ·exact addedN_len _ _
  ·simp
 obtain⟨UK,hUK⟩:∃ U:Nat->List (List Int),U=fun k=>(q.wh.take k).foldl (usefulS ts q s) I0:=⟨_,rfl⟩
 have HST:Hid (∀ k,k<q.wh.length->UK (k+1)=usefulS ts q s (UK k) (q.wh.getD k lz)):=fun k hk=>by rw[hUK]; exact foldl_takeR _ I0 q.wh lz hk
 have HUL:Hid (∀ k,(UK k).length<=2+2*k):=fun k=>by
  have key:∀ (l:List ClauseV) (acc:List (List Int)),(l.foldl (usefulS ts q s) acc).length<=acc.length+2*l.length:=by
   intro l
   induction l with
   | nil => intro acc; simp
   | cons c l ih =>
    intro acc;refine Nat.le_trans (ih _) ?_;have:(usefulS ts q s acc c).length<=acc.length+2:=by
     unfold usefulS;split
     ·have h1:=usefulC_len ts q s acc (eqCols c.cs).1;have h2:=usefulC_len ts q s (usefulC ts q s acc (eqCols c.cs).1) (eqCols c.cs).2.1;omega
     ·omega
    simp only[List.length_cons];omega
  rw[hUK];refine Nat.le_trans (key _ _) ?_;rw[List.length_take];omega
 have HU0:Hid (UK 0=I0):=by show _=_; rw[hUK]; rfl
 have HUE:Hid (UK q.wh.length=usefulN ts q s):=by
  show _=_
  rw[hUK]
  show (q.wh.take q.wh.length).foldl _ _=_
  rw[List.take_length,hI0];rfl
 have hwl:=E.eight;have HEN:Hid (ColOk ts q (endOrderN q)/\(endOrderN q).length<=4):=⟨E.endOk,E.endLen⟩
 have HI0:Hid _:=hI0;have HZ:Hid (Fz F W0 w):=hz;obtain⟨w1,hw1,hb1,hg1⟩:=newB w #[v0,.slice q.wad q.wh.length q.wcap,v2,v3,v4,v5,v6,v7,v8,v9,v10,v11,v12] 79;obtain⟨w2,hw2,hb2,hx2⟩:=newB w1 #[.slice none 0 0] 22;have HS2:Hid (StepO F w1 [[]] (.slice (some (aD w1.heap.size 0)) 1 1) w2):=⟨[nilV],⟨⟨rfl,.inr ⟨w1.heap.size,1,#[.slice none 0 0],rfl,Nat.le_refl _,hx2,Nat.le_refl _,by unfold maxLen; omega,rfl,rfl⟩⟩,fun o ho=>by rw[List.mem_singleton] at ho; rw[ho]; exact⟨IntsIn.nilV _ _,Nat.zero_le _⟩⟩,rfl,by simp,hb2⟩
 have HB1:Hid (Below w.heap.size w w1):=hb1;have HG1:Hid (GB w1 w.heap.size 79 #[v0,.slice q.wad q.wh.length q.wcap,v2,v3,v4,v5,v6,v7,v8,v9,v10,v11,v12]):=hg1;have HFZ:Hid (∀ (x:World) (v:Value) (ls:List (List Int)),StepO F w1 ls v x->Fz (Fv F v) W0 x/\Below w.heap.size w x/\Below w1.heap.size w1 x/\(∀ g,v.ownBlock=some g->g<x.heap.size)):=fun x v ls h=>by
  obtain⟨os,h1,h2,h3,h4⟩:=h;have hbx:Below w.heap.size w x:=bQ1 hb1 h4;have:=h1.fz (hz.next hbx) (Nat.le_trans hz.below.size hb1.size);exact⟨this,hbx,h4,fun g e=>(ownsRow_lt h1.own e).2⟩
 have HFB:Hid (∀ (x:World),Below w1.heap.size w1 x->GB x w.heap.size 79 #[v0,.slice q.wad q.wh.length q.wcap,v2,v3,v4,v5,v6,v7,v8,v9,v10,v11,v12]):=fun x hx=>hg1.keep (Kept.of_below (s:=fun b=>b<w1.heap.size) hx (fun _ h _=>h)) hg1.lt
 have hf2:=HFB.out w2 hb2;have a0:w2.cell? (aD w.heap.size 0)=some (v0):=hf2.cell 0;have a1:w2.cell? (aD w.heap.size 1)=some (.slice q.wad q.wh.length q.wcap):=hf2.cell 1;have a2:w2.cell? (aD w.heap.size 2)=some (v2):=hf2.cell 2;have a3:w2.cell? (aD w.heap.size 3)=some (v3):=hf2.cell 3;have a4:w2.cell? (aD w.heap.size 4)=some (v4):=hf2.cell 4;have a5:w2.cell? (aD w.heap.size 5)=some (v5):=hf2.cell 5;have a6:w2.cell? (aD w.heap.size 6)=some (v6):=hf2.cell 6;have a7:w2.cell? (aD w.heap.size 7)=some (v7):=hf2.cell 7;have a8:w2.cell? (aD w.heap.size 8)=some (v8):=hf2.cell 8;have a9:w2.cell? (aD w.heap.size 9)=some (v9):=hf2.cell 9;have a10:w2.cell? (aD w.heap.size 10)=some (v10):=hf2.cell 10;have a11:w2.cell? (aD w.heap.size 11)=some (v11):=hf2.cell 11;have a12:w2.cell? (aD w.heap.size 12)=some (v12):=hf2.cell 12;have hEO:=HEO.out _ w2 (HFZ.out w2 _ _ HS2.out).1;have HFEND:Hid (∀ (x:World) (v:Value) (ls:List (List Int)),StepO F w1 ls v x->∃ os,OrdsIn 22 F w.heap.size x v os/\os.map IntsV.xs=ls/\Below w.heap.size w x):=fun x v ls h=>by
  obtain⟨os,h1,h2,h3,h4⟩:=h;exact⟨os,⟨ownsRow_base h1.own hb1.size,h1.each⟩,h2,bQ1 hb1 h4⟩
 rw[hFC];clear hFC hQC hv0 hv2 hv3 hv4 hv5 hv6 hI0 hUK hz hb1 hg1 hb2 hx2 hf2 E;generalize usefulN ts q s=R at *;generalize endOrderN q=EO at *;go_enter Tryz.func40,Tryz.ntmps40;go_wp2_with fail;refine hEO.mono ?_;rintro e w3 ⟨iv,rfl,hivx,hin,hb3⟩;obtain⟨ea,ec,ex⟩:=iv;simp only[IntsV.val] at hivx ⊢;subst hivx;have hS3:=HS2.out.below hb3;have hfz3:=HFZ.out w3 _ _ hS3;have hf3:=HFB.out w3 hfz3.2.2.1;clear a0 a1 a2 a3 a4 a5 a6 a7 a8 a9 a10 a11 a12;have a0:w3.cell? (aD w.heap.size 0)=some (v0):=hf3.cell 0;have a1:w3.cell? (aD w.heap.size 1)=some (.slice q.wad q.wh.length q.wcap):=hf3.cell 1;have a2:w3.cell? (aD w.heap.size 2)=some (v2):=hf3.cell 2;have a3:w3.cell? (aD w.heap.size 3)=some (v3):=hf3.cell 3;have a4:w3.cell? (aD w.heap.size 4)=some (v4):=hf3.cell 4;have a5:w3.cell? (aD w.heap.size 5)=some (v5):=hf3.cell 5;have a6:w3.cell? (aD w.heap.size 6)=some (v6):=hf3.cell 6;have a7:w3.cell? (aD w.heap.size 7)=some (v7):=hf3.cell 7;have a8:w3.cell? (aD w.heap.size 8)=some (v8):=hf3.cell 8;have a9:w3.cell? (aD w.heap.size 9)=some (v9):=hf3.cell 9;have a10:w3.cell? (aD w.heap.size 10)=some (v10):=hf3.cell 10;have a11:w3.cell? (aD w.heap.size 11)=some (v11):=hf3.cell 11;have a12:w3.cell? (aD w.heap.size 12)=some (v12):=hf3.cell 12;have hSO3:=HSO.out w3 ⟨ea,ec,ex⟩ hfz3.2.1 hin.at' HEN.out.1;have HS3:Hid (StepO F w1 [[]] (.slice (some (aD w1.heap.size 0)) 1 1) w3):=hS3;have HIN3:Hid (IntsIn (Fv F (.slice (some (aD w1.heap.size 0)) 1 1)) w3 ⟨ea,ec,ex⟩):=hin;have hCV3:=fun x=>HCV.out ex x HEN.out.1
 clear hEO hS3 hfz3 hf3 hin hb3 hw1 hw2;generalize setN (srcL ts q ex)=se at *;obtain⟨el,hel⟩:∃ n,n=ex.length:=⟨_,rfl⟩
 have HEL:Hid (el=ex.length):=hel;simp only at hSO3;rw[<- hel] at hSO3 ⊢;clear hel;go_wp2_with fail;refine hSO3.mono ?_;rintro e w4 ⟨rfl,hb4⟩;have hCV4:=hCV3 w4;have HS4:Hid (StepO F w1 [[]] (.slice (some (aD w1.heap.size 0)) 1 1) w4):=HS3.out.below hb4;have HIN4:Hid (IntsIn (Fv F (.slice (some (aD w1.heap.size 0)) 1 1)) w4 ⟨ea,ec,ex⟩):=HIN3.out.below hb4;clear hSO3 hb4 hCV3;go_wp2_with fail;refine hCV4.mono ?_;rintro e wz ⟨rfl,hwz⟩;have hwz':=hwz.symm;subst hwz';clear hCV4 a0 a1 a2 a3 a4 a5 a6 a7 a8 a9 a10 a11 a12;generalize coversB s se=CB0 at *
 cases CB0 with
 | true =>
  have hAD:=addO HS4.out (by simp) ⟨ea,ec,ex⟩ HIN4.out (by show ex.length<=1000; have:=HEN.out.2; omega);simp only at hAD;rw[<- HEL.out] at hAD;go_wp2_with fail;refine hAD.mono ?_;rintro e w5 ⟨v',rfl,⟨ra,rm,rc,rfl⟩,hst,-⟩;have HS5:Hid (StepO F w1 (UK 0) (.slice ra rm rc) w5):=by show StepO _ _ _ _ _; rw[HU0.out,HI0.out]; exact hst
  have hfz5:=HFZ.out w5 _ _ HS5.out;have hf5:=HFB.out w5 hfz5.2.2.1;clear hAD hst;have a0:w5.cell? (aD w.heap.size 0)=some (v0):=hf5.cell 0;have a1:w5.cell? (aD w.heap.size 1)=some (.slice q.wad q.wh.length q.wcap):=hf5.cell 1;have a2:w5.cell? (aD w.heap.size 2)=some (v2):=hf5.cell 2;have a3:w5.cell? (aD w.heap.size 3)=some (v3):=hf5.cell 3;have a4:w5.cell? (aD w.heap.size 4)=some (v4):=hf5.cell 4;have a5:w5.cell? (aD w.heap.size 5)=some (v5):=hf5.cell 5;have a6:w5.cell? (aD w.heap.size 6)=some (v6):=hf5.cell 6;have a7:w5.cell? (aD w.heap.size 7)=some (v7):=hf5.cell 7;have a8:w5.cell? (aD w.heap.size 8)=some (v8):=hf5.cell 8;have a9:w5.cell? (aD w.heap.size 9)=some (v9):=hf5.cell 9;have a10:w5.cell? (aD w.heap.size 10)=some (v10):=hf5.cell 10;have a11:w5.cell? (aD w.heap.size 11)=some (v11):=hf5.cell 11;have a12:w5.cell? (aD w.heap.size 12)=some (v12):=hf5.cell 12;clear hf5 hfz5;go_wp2;go_loopw [5,30] (fun pv xv wr=>∃ k:Nat,k<=q.wh.length/\xv=.int .i64 (k:Int)/\(∃ a m c,pv=.slice a m c)/\Hid (StepO F w1 (UK k) pv wr)) (fun _ xv _=>q.wh.length-(intOf xv).toNat)
  case atStart=>exact⟨0,Nat.zero_le _,rfl,⟨_,_,_,rfl⟩,HS5.out⟩
  case round=>
   obtain⟨k,hk,rfl,⟨pa,pm,pc,rfl⟩,HSK⟩:=hrel;by_cases hlt:k<q.wh.length
   ·have hfz:=HFZ.out wr _ _ HSK.out;obtain⟨hcell,⟨kb,koff,hwad⟩,hEC⟩:=HEC.out k wr hlt hfz.2.1;have HECk:=fun x (hx:Below w.heap.size w x)=>(HEC.out k x hlt hx).2.2
    have HST':=HST.out k hlt;have HEKk:=HEK.out k hlt;have HULk:=HUL.out k;rw[hwad] at hcell ⊢;clear hwad;change wr.cell? (aD kb (koff+k))=some (.slice (q.wh.getD k lz).ad (q.wh.getD k lz).cs.length (q.wh.getD k lz).cap) at hcell;unfold usefulS at HST';generalize eqCols (q.wh.getD k lz).cs=EC at *;obtain⟨c1,c2,c3⟩:=EC;simp only at HECk HST' HEKk hEC;generalize (q.wh.getD k lz).ad=ca at *;generalize (q.wh.getD k lz).cs.length=cl at *;generalize (q.wh.getD k lz).cap=cc at *;obtain⟨y1,hy1⟩:∃ x,wr.alloc (.cells #[.slice ca cl cc] 67)=x:=⟨_,rfl⟩
    have hd1:Below wr.heap.size wr y1:=by rw[<- hy1]; exact bQ2 _ _
    have b0:y1.cell? (aD wr.heap.size 0)=some (.slice ca cl cc):=by rw[<- hy1]; simp
    have hEC1:=HECk y1 (bQ1 hfz.2.1 hd1);have HS1:Hid (StepO F w1 (UK k) (.slice pa pm pc) y1):=HSK.out.below hd1;clear hd1 hEC HECk hfz;obtain⟨wl,hwl'⟩:∃ n,n=q.wh.length:=⟨_,rfl⟩
    go_wp2_with fail;refine hEC1.mono ?_;rintro e y2 ⟨rfl,hb2⟩;have HS2':Hid (StepO F w1 (UK k) (.slice pa pm pc) y2):=HS1.out.below hb2;clear hEC1 hy1 b0 hcell hb2
    cases c3 with
    | false =>
     have HNX:Hid (UK (k+1)=UK k):=HST';clear HST' HEKk;go_wp2;go_roundw
     case rel=>exact⟨k+1,by omega,by go_num,⟨_,_,_,rfl⟩,by show StepO _ _ _ _ _; rw[HNX.out]; exact HS2'.out⟩
     case measure=>simp[intOf]; omega
    | true =>
     obtain⟨hk1,hk2⟩:=HEKk rfl;have hk12:ColOk ts q [c1,c2]:=fun c hc=>by
      rcases List.mem_cons.1 hc with rfl | hc
      ·exact hk1 _ List.mem_cons_self
      ·exact hk2 c hc
     have hfz2:=HFZ.out y2 _ _ HS2'.out;obtain⟨y3,hy3,hd3,hx3⟩:=newB y2 #[.int .i64 c1,.int .i64 c2] 3;have hSO3:=HSO.out y3 ⟨some (aD y2.heap.size 0),2,[c1,c2]⟩ (bQ1 hfz2.2.1 hd3) ⟨by simp,fun i hi=>⟨y2.heap.size,0,rfl,by
      rw[Nat.zero_add];have hi':i<2:=hi
      match i,hi' with
      | 0,_ => exact hx3.cell 0
      | 1,_ => exact hx3.cell 1⟩⟩ hk12
     change Calls Tryz.prog 68 #[.agg #[v0,.slice q.wad q.wh.length q.wcap,v2,v3,v4,v5,v6,v7,v8,v9,v10,v11,v12],.slice (some (aD y2.heap.size 0)) 2 2] y3 _ at hSO3;have hf2:=HFB.out y2 hfz2.2.2.1;have a0:y2.cell? (aD w.heap.size 0)=some (v0):=hf2.cell 0;have a1:y2.cell? (aD w.heap.size 1)=some (.slice q.wad q.wh.length q.wcap):=hf2.cell 1;have a2:y2.cell? (aD w.heap.size 2)=some (v2):=hf2.cell 2;have a3:y2.cell? (aD w.heap.size 3)=some (v3):=hf2.cell 3;have a4:y2.cell? (aD w.heap.size 4)=some (v4):=hf2.cell 4;have a5:y2.cell? (aD w.heap.size 5)=some (v5):=hf2.cell 5;have a6:y2.cell? (aD w.heap.size 6)=some (v6):=hf2.cell 6;have a7:y2.cell? (aD w.heap.size 7)=some (v7):=hf2.cell 7;have a8:y2.cell? (aD w.heap.size 8)=some (v8):=hf2.cell 8;have a9:y2.cell? (aD w.heap.size 9)=some (v9):=hf2.cell 9;have a10:y2.cell? (aD w.heap.size 10)=some (v10):=hf2.cell 10;have a11:y2.cell? (aD w.heap.size 11)=some (v11):=hf2.cell 11;have a12:y2.cell? (aD w.heap.size 12)=some (v12):=hf2.cell 12;have HS3:Hid (StepO F w1 (UK k) (.slice pa pm pc) y3):=HS2'.out.below hd3;have hCV3:=fun x=>HCV.out [c1,c2] x hk12
     have HK1:Hid (ColOk ts q [c1]/\ColOk ts q [c2]):=⟨hk1,hk2⟩
     clear hf2 hd3 hx3 hfz2 hk1 hk2 hk12 HEKk;generalize setN (srcL ts q [c1,c2])=s12 at *;go_wp2_with fail;refine hSO3.mono ?_;rintro e y4 ⟨rfl,hb4⟩;have HS4:Hid (StepO F w1 (UK k) (.slice pa pm pc) y4):=HS3.out.below hb4;have hCV4:=hCV3 y4;clear hSO3 hb4 hy3 hCV3 a0 a1 a2 a3 a4 a5 a6 a7 a8 a9 a10 a11 a12;go_wp2_with fail;refine hCV4.mono ?_;rintro e yz ⟨rfl,hyz⟩;have hyz':=hyz.symm;subst hyz';clear hCV4;generalize coversB s s12=CB at *
     cases CB with
     | true =>
      have HNX:Hid (UK (k+1)=UK k):=HST';clear HST';go_wp2;go_roundw
      case rel=>exact⟨k+1,by omega,by go_num,⟨_,_,_,rfl⟩,by show StepO _ _ _ _ _; rw[HNX.out]; exact HS4.out⟩
      case measure=>simp[intOf]; omega
     | false =>
      have HNX:Hid (UK (k+1)=usefulC ts q s (usefulC ts q s (UK k) c1) c2):=HST';obtain⟨y5,hy5,hd5,hx5⟩:=newB y4 #[.int .i64 c1,.int .i64 c2] 3;have HI5:Hid (StepO F w1 (UK k) (.slice pa pm pc) y5/\y5.cell? (aD y4.heap.size 0)=some (.int .i64 c1)/\y5.cell? (aD y4.heap.size 1)=some (.int .i64 c2)/\(Value.slice pa pm pc).ownBlock≠some y4.heap.size):=⟨HS4.out.below hd5,hx5.cell 0,hx5.cell 1,fun e=>by have:=(HFZ.out y4 _ _ HS4.out).2.2.2 _ e; omega⟩
      obtain⟨lb,hlb⟩:∃ b,b=y4.heap.size:=⟨_,rfl⟩
      rw[<- hlb] at HI5;obtain⟨UC,hUC⟩:∃ U:Nat->List (List Int),U=fun j=>if j=0 then UK k else if j=1 then usefulC ts q s (UK k) c1 else usefulC ts q s (usefulC ts q s (UK k) c1) c2:=⟨_,rfl⟩
      have HU:Hid (UC 0=UK k/\UC 1=usefulC ts q s (UC 0) c1/\UC 2=usefulC ts q s (UC 1) c2/\UC 2=UK (k+1)):=by rw[hUC]; exact⟨rfl,rfl,rfl,HNX.out.symm⟩
      have HUCL:Hid (∀ j,(UC j).length<=40):=fun j=>by
       have h1:=usefulC_len ts q s (UK k) c1;have h2:=usefulC_len ts q s (usefulC ts q s (UK k) c1) c2;rw[hUC]
       show (if j=0 then UK k else if j=1 then usefulC ts q s (UK k) c1 else usefulC ts q s (usefulC ts q s (UK k) c1) c2).length<=40
       split
       ·omega
       ·split <;> omega
      have HLBS:Hid (y4.heap.size=lb):=hlb.symm;clear hd5 hx5 HST' hUC;go_wp2;rw[<- hlb] at *;clear hy5;go_loopw [5,55] (fun pv xv wx=>∃ j:Nat,j<=2/\xv=.int .i64 (j:Int)/\(∃ a m c,pv=.slice a m c)/\Hid (StepO F w1 (UC j) pv wx/\wx.cell? (aD lb 0)=some (.int .i64 c1)/\wx.cell? (aD lb 1)=some (.int .i64 c2)/\pv.ownBlock≠some lb)) (fun _ xv _=>2-(intOf xv).toNat)
      case atStart=>exact⟨0,by omega,rfl,⟨_,_,_,rfl⟩,by show StepO _ _ _ _ _/\_; rw[HU.out.1]; exact HI5.out⟩
      case round=>
       obtain⟨j,hj,rfl,⟨qa,qm,qc,rfl⟩,HJ⟩:=hrel;by_cases hj2:j<2
       ·have hcj:∃ col,wr.cell? (aD lb j)=some (.int .i64 col)/\ColOk ts q [col]/\UC (j+1)=usefulC ts q s (UC j) col:=by
         have hj01:j=0∨j=1:=by omega
         rcases hj01 with rfl | rfl
         ·exact⟨c1,HJ.out.2.1,HK1.out.1,HU.out.2.1⟩
         ·exact⟨c2,HJ.out.2.2.1,HK1.out.2,HU.out.2.2.1⟩
        obtain⟨col,hcol,hcok,hnx⟩:=hcj;have HJO:=HJ.out;have hfz:=HFZ.out wr _ _ HJO.1;have hf:=HFB.out wr hfz.2.2.1;have a0:wr.cell? (aD w.heap.size 0)=some (v0):=hf.cell 0;have a1:wr.cell? (aD w.heap.size 1)=some (.slice q.wad q.wh.length q.wcap):=hf.cell 1;have a2:wr.cell? (aD w.heap.size 2)=some (v2):=hf.cell 2;have a3:wr.cell? (aD w.heap.size 3)=some (v3):=hf.cell 3;have a4:wr.cell? (aD w.heap.size 4)=some (v4):=hf.cell 4;have a5:wr.cell? (aD w.heap.size 5)=some (v5):=hf.cell 5;have a6:wr.cell? (aD w.heap.size 6)=some (v6):=hf.cell 6;have a7:wr.cell? (aD w.heap.size 7)=some (v7):=hf.cell 7;have a8:wr.cell? (aD w.heap.size 8)=some (v8):=hf.cell 8;have a9:wr.cell? (aD w.heap.size 9)=some (v9):=hf.cell 9;have a10:wr.cell? (aD w.heap.size 10)=some (v10):=hf.cell 10;have a11:wr.cell? (aD w.heap.size 11)=some (v11):=hf.cell 11;have a12:wr.cell? (aD w.heap.size 12)=some (v12):=hf.cell 12;obtain⟨z1,hz1⟩:∃ x,wr.alloc (.cells #[.int .i64 col] 3)=x:=⟨_,rfl⟩
        have hd1:Below wr.heap.size wr z1:=by rw[<- hz1]; exact bQ2 _ _
        have hx1:z1.cell? (aD wr.heap.size 0)=some (.int .i64 col):=by rw[<- hz1]; simp
        have hSO:=HSO.out z1 ⟨some (aD wr.heap.size 0),1,[col]⟩ (bQ1 hfz.2.1 hd1) (ints_one (F:=fun _=>True) hx1 trivial).at' hcok;change Calls Tryz.prog 68 #[.agg #[v0,.slice q.wad q.wh.length q.wcap,v2,v3,v4,v5,v6,v7,v8,v9,v10,v11,v12],.slice (some (aD wr.heap.size 0)) 1 1] z1 _ at hSO;have hCV:=fun x=>HCV.out [col] x hcok
        have HB1':Hid (Below wr.heap.size wr z1):=hd1;have HJB:Hid (∀ x,Below wr.heap.size wr x->StepO F w1 (UC j) (.slice qa qm qc) x/\x.cell? (aD lb 0)=some (.int .i64 c1)/\x.cell? (aD lb 1)=some (.int .i64 c2)/\(Value.slice qa qm qc).ownBlock≠some lb):=fun x hx=>⟨HJO.1.below hx,cB hx HJO.2.1,cB hx HJO.2.2.1,HJO.2.2.2⟩
        unfold usefulC at hnx;have HNX2:Hid _:=hnx;clear hf hfz hd1 hx1 hcok hnx HJO;generalize setN (srcL ts q [col])=sc at *;obtain⟨wq,hwq⟩:∃ x,x=wr:=⟨_,rfl⟩
        subst hwq;go_wp2_with fail;refine hSO.mono ?_;rintro e z2 ⟨rfl,hb2⟩;have HB2':Hid (Below wq.heap.size wq z2):=bQ1 HB1'.out hb2;have hCV2:=hCV z2;clear hSO hb2 hz1 hCV a0 a1 a2 a3 a4 a5 a6 a7 a8 a9 a10 a11 a12 hcol;go_wp2_with fail;refine hCV2.mono ?_;rintro e zz ⟨rfl,hzz⟩;have hzz':=hzz.symm;subst hzz';clear hCV2;generalize coversB s sc=CB2 at *
        cases CB2 with
        | false =>
         have HN3:Hid (UC (j+1)=UC j):=HNX2.out;have HF:Hid _:=HJB.out z2 HB2'.out;clear HNX2;go_wp2;go_roundw
         case rel=>exact⟨j+1,by omega,by go_num,⟨_,_,_,rfl⟩,by show StepO _ _ _ _ _/\_; rw[HN3.out]; exact HF.out⟩
         case measure=>simp[intOf]; omega
        | true =>
         have HN3:Hid (UC (j+1)=addedN (UC j) [col]):=HNX2.out;obtain⟨z3,hz3⟩:∃ x,z2.alloc (.cells #[.int .i64 col] 3)=x:=⟨_,rfl⟩
         have hd3:Below z2.heap.size z2 z3:=by rw[<- hz3]; exact bQ2 _ _
         have hx3:z3.cell? (aD z2.heap.size 0)=some (.int .i64 col):=by rw[<- hz3]; simp
         have hJ3:=HJB.out z3 (bQ1 HB2'.out hd3);have hJ2:=HJB.out z2 HB2'.out;have hfz2:=HFZ.out z2 _ _ hJ2.1;have hAD:=addO hJ3.1 (by have:=HUCL.out j; omega) ⟨some (aD z2.heap.size 0),1,[col]⟩ (ints_one hx3 (hfz2.1.high _ (Nat.le_refl _))) (by simp);change Calls Tryz.prog 69 #[.slice qa qm qc,.slice (some (aD z2.heap.size 0)) 1 1] z3 _ at hAD;have HJ3:Hid _:=hJ3;clear HNX2 hd3 hx3 hJ3 hJ2 hfz2;go_wp2_with fail;refine hAD.mono ?_;rintro e z4 ⟨v',rfl,⟨ra,rm,rc,rfl⟩,hst,hk4,hat4⟩;have HF:Hid (StepO F w1 (UC (j+1)) (.slice ra rm rc) z4/\z4.cell? (aD lb 0)=some (.int .i64 c1)/\z4.cell? (aD lb 1)=some (.int .i64 c2)/\(Value.slice ra rm rc).ownBlock≠some lb):=by
          refine⟨by rw[HN3.out]; exact hst,cell_keepO hk4 HJ3.out.2.1 HJ3.out.2.2.2,cell_keepO hk4 HJ3.out.2.2.1 HJ3.out.2.2.2,fun e=>?_⟩;rcases hat4 with h | ⟨g,h,hg⟩
          ·exact HJ3.out.2.2.2 (h ▸ e)
          ·rw[h] at e;injection e with e;have hlt3:lb<z3.heap.size:=cell_lt HJ3.out.2.1;omega
         clear hAD hst hk4 hat4 hz3;go_wp2;go_roundw
         case rel=>exact⟨j+1,by omega,by go_num,⟨_,_,_,rfl⟩,HF.out⟩
         case measure=>simp[intOf]; omega
       ·have hje:j=2:=by omega
        have HF:Hid (StepO F w1 (UK (k+1)) (.slice qa qm qc) wr):=by
         have:=HJ.out.1;rw[hje,HU.out.2.2.2] at this;exact this
        clear hje;go_wp2;go_roundw
        case rel=>exact⟨k+1,by omega,by go_num,⟨_,_,_,rfl⟩,HF.out⟩
        case measure=>simp[intOf]; omega
   ·have hkw:q.wh.length=k:=by omega
    have HF:Hid (∃ os,OrdsIn 22 F w.heap.size wr (.slice pa pm pc) os/\os.map IntsV.xs=R/\Below w.heap.size w wr):=by
     refine HFEND.out wr _ _ ?_;have:=HSK.out;rw[<- hkw,HUE.out] at this;exact this
    clear hkw;go_wp2;go_ret;obtain⟨os,h1,h2,h3⟩:=HF.out;exact⟨_,os,rfl,h1,h2,h3⟩
 | false =>
  have HS5:Hid (StepO F w1 (UK 0) (.slice (some (aD w1.heap.size 0)) 1 1) w4):=by show StepO _ _ _ _ _; rw[HU0.out,HI0.out]; exact HS4.out
  have hfz5:=HFZ.out w4 _ _ HS5.out;have hf5:=HFB.out w4 hfz5.2.2.1;have a0:w4.cell? (aD w.heap.size 0)=some (v0):=hf5.cell 0;have a1:w4.cell? (aD w.heap.size 1)=some (.slice q.wad q.wh.length q.wcap):=hf5.cell 1;have a2:w4.cell? (aD w.heap.size 2)=some (v2):=hf5.cell 2;have a3:w4.cell? (aD w.heap.size 3)=some (v3):=hf5.cell 3;have a4:w4.cell? (aD w.heap.size 4)=some (v4):=hf5.cell 4;have a5:w4.cell? (aD w.heap.size 5)=some (v5):=hf5.cell 5;have a6:w4.cell? (aD w.heap.size 6)=some (v6):=hf5.cell 6;have a7:w4.cell? (aD w.heap.size 7)=some (v7):=hf5.cell 7;have a8:w4.cell? (aD w.heap.size 8)=some (v8):=hf5.cell 8;have a9:w4.cell? (aD w.heap.size 9)=some (v9):=hf5.cell 9;have a10:w4.cell? (aD w.heap.size 10)=some (v10):=hf5.cell 10;have a11:w4.cell? (aD w.heap.size 11)=some (v11):=hf5.cell 11;have a12:w4.cell? (aD w.heap.size 12)=some (v12):=hf5.cell 12;clear hf5 hfz5;go_wp2;go_loopw [5,30] (fun pv xv wr=>∃ k:Nat,k<=q.wh.length/\xv=.int .i64 (k:Int)/\(∃ a m c,pv=.slice a m c)/\Hid (StepO F w1 (UK k) pv wr)) (fun _ xv _=>q.wh.length-(intOf xv).toNat)
  case atStart=>exact⟨0,Nat.zero_le _,rfl,⟨_,_,_,rfl⟩,HS5.out⟩
  case round=>
   obtain⟨k,hk,rfl,⟨pa,pm,pc,rfl⟩,HSK⟩:=hrel;by_cases hlt:k<q.wh.length
   ·have hfz:=HFZ.out wr _ _ HSK.out;obtain⟨hcell,⟨kb,koff,hwad⟩,hEC⟩:=HEC.out k wr hlt hfz.2.1;have HECk:=fun x (hx:Below w.heap.size w x)=>(HEC.out k x hlt hx).2.2
    have HST':=HST.out k hlt;have HEKk:=HEK.out k hlt;have HULk:=HUL.out k;rw[hwad] at hcell ⊢;clear hwad;change wr.cell? (aD kb (koff+k))=some (.slice (q.wh.getD k lz).ad (q.wh.getD k lz).cs.length (q.wh.getD k lz).cap) at hcell;unfold usefulS at HST';generalize eqCols (q.wh.getD k lz).cs=EC at *;obtain⟨c1,c2,c3⟩:=EC;simp only at HECk HST' HEKk hEC;generalize (q.wh.getD k lz).ad=ca at *;generalize (q.wh.getD k lz).cs.length=cl at *;generalize (q.wh.getD k lz).cap=cc at *;obtain⟨y1,hy1⟩:∃ x,wr.alloc (.cells #[.slice ca cl cc] 67)=x:=⟨_,rfl⟩
    have hd1:Below wr.heap.size wr y1:=by rw[<- hy1]; exact bQ2 _ _
    have b0:y1.cell? (aD wr.heap.size 0)=some (.slice ca cl cc):=by rw[<- hy1]; simp
    have hEC1:=HECk y1 (bQ1 hfz.2.1 hd1);have HS1:Hid (StepO F w1 (UK k) (.slice pa pm pc) y1):=HSK.out.below hd1;clear hd1 hEC HECk hfz;obtain⟨wl,hwl'⟩:∃ n,n=q.wh.length:=⟨_,rfl⟩
    go_wp2_with fail;refine hEC1.mono ?_;rintro e y2 ⟨rfl,hb2⟩;have HS2':Hid (StepO F w1 (UK k) (.slice pa pm pc) y2):=HS1.out.below hb2;clear hEC1 hy1 b0 hcell hb2
    cases c3 with
    | false =>
     have HNX:Hid (UK (k+1)=UK k):=HST';clear HST' HEKk;go_wp2;go_roundw
     case rel=>exact⟨k+1,by omega,by go_num,⟨_,_,_,rfl⟩,by show StepO _ _ _ _ _; rw[HNX.out]; exact HS2'.out⟩
     case measure=>simp[intOf]; omega
    | true =>
     obtain⟨hk1,hk2⟩:=HEKk rfl;have hk12:ColOk ts q [c1,c2]:=fun c hc=>by
      rcases List.mem_cons.1 hc with rfl | hc
      ·exact hk1 _ List.mem_cons_self
      ·exact hk2 c hc
     have hfz2:=HFZ.out y2 _ _ HS2'.out;obtain⟨y3,hy3,hd3,hx3⟩:=newB y2 #[.int .i64 c1,.int .i64 c2] 3;have hSO3:=HSO.out y3 ⟨some (aD y2.heap.size 0),2,[c1,c2]⟩ (bQ1 hfz2.2.1 hd3) ⟨by simp,fun i hi=>⟨y2.heap.size,0,rfl,by
      rw[Nat.zero_add];have hi':i<2:=hi
      match i,hi' with
      | 0,_ => exact hx3.cell 0
      | 1,_ => exact hx3.cell 1⟩⟩ hk12
     change Calls Tryz.prog 68 #[.agg #[v0,.slice q.wad q.wh.length q.wcap,v2,v3,v4,v5,v6,v7,v8,v9,v10,v11,v12],.slice (some (aD y2.heap.size 0)) 2 2] y3 _ at hSO3;have hf2:=HFB.out y2 hfz2.2.2.1;have a0:y2.cell? (aD w.heap.size 0)=some (v0):=hf2.cell 0;have a1:y2.cell? (aD w.heap.size 1)=some (.slice q.wad q.wh.length q.wcap):=hf2.cell 1;have a2:y2.cell? (aD w.heap.size 2)=some (v2):=hf2.cell 2;have a3:y2.cell? (aD w.heap.size 3)=some (v3):=hf2.cell 3;have a4:y2.cell? (aD w.heap.size 4)=some (v4):=hf2.cell 4;have a5:y2.cell? (aD w.heap.size 5)=some (v5):=hf2.cell 5;have a6:y2.cell? (aD w.heap.size 6)=some (v6):=hf2.cell 6;have a7:y2.cell? (aD w.heap.size 7)=some (v7):=hf2.cell 7;have a8:y2.cell? (aD w.heap.size 8)=some (v8):=hf2.cell 8;have a9:y2.cell? (aD w.heap.size 9)=some (v9):=hf2.cell 9;have a10:y2.cell? (aD w.heap.size 10)=some (v10):=hf2.cell 10;have a11:y2.cell? (aD w.heap.size 11)=some (v11):=hf2.cell 11;have a12:y2.cell? (aD w.heap.size 12)=some (v12):=hf2.cell 12;have HS3:Hid (StepO F w1 (UK k) (.slice pa pm pc) y3):=HS2'.out.below hd3;have hCV3:=fun x=>HCV.out [c1,c2] x hk12
     have HK1:Hid (ColOk ts q [c1]/\ColOk ts q [c2]):=⟨hk1,hk2⟩
     clear hf2 hd3 hx3 hfz2 hk1 hk2 hk12 HEKk;generalize setN (srcL ts q [c1,c2])=s12 at *;go_wp2_with fail;refine hSO3.mono ?_;rintro e y4 ⟨rfl,hb4⟩;have HS4:Hid (StepO F w1 (UK k) (.slice pa pm pc) y4):=HS3.out.below hb4;have hCV4:=hCV3 y4;clear hSO3 hb4 hy3 hCV3 a0 a1 a2 a3 a4 a5 a6 a7 a8 a9 a10 a11 a12;go_wp2_with fail;refine hCV4.mono ?_;rintro e yz ⟨rfl,hyz⟩;have hyz':=hyz.symm;subst hyz';clear hCV4;generalize coversB s s12=CB at *
     cases CB with
     | true =>
      have HNX:Hid (UK (k+1)=UK k):=HST';clear HST';go_wp2;go_roundw
      case rel=>exact⟨k+1,by omega,by go_num,⟨_,_,_,rfl⟩,by show StepO _ _ _ _ _; rw[HNX.out]; exact HS4.out⟩
      case measure=>simp[intOf]; omega
     | false =>
      have HNX:Hid (UK (k+1)=usefulC ts q s (usefulC ts q s (UK k) c1) c2):=HST';obtain⟨y5,hy5,hd5,hx5⟩:=newB y4 #[.int .i64 c1,.int .i64 c2] 3;have HI5:Hid (StepO F w1 (UK k) (.slice pa pm pc) y5/\y5.cell? (aD y4.heap.size 0)=some (.int .i64 c1)/\y5.cell? (aD y4.heap.size 1)=some (.int .i64 c2)/\(Value.slice pa pm pc).ownBlock≠some y4.heap.size):=⟨HS4.out.below hd5,hx5.cell 0,hx5.cell 1,fun e=>by have:=(HFZ.out y4 _ _ HS4.out).2.2.2 _ e; omega⟩
      obtain⟨lb,hlb⟩:∃ b,b=y4.heap.size:=⟨_,rfl⟩
      rw[<- hlb] at HI5;obtain⟨UC,hUC⟩:∃ U:Nat->List (List Int),U=fun j=>if j=0 then UK k else if j=1 then usefulC ts q s (UK k) c1 else usefulC ts q s (usefulC ts q s (UK k) c1) c2:=⟨_,rfl⟩
      have HU:Hid (UC 0=UK k/\UC 1=usefulC ts q s (UC 0) c1/\UC 2=usefulC ts q s (UC 1) c2/\UC 2=UK (k+1)):=by rw[hUC]; exact⟨rfl,rfl,rfl,HNX.out.symm⟩
      have HUCL:Hid (∀ j,(UC j).length<=40):=fun j=>by
       have h1:=usefulC_len ts q s (UK k) c1;have h2:=usefulC_len ts q s (usefulC ts q s (UK k) c1) c2;rw[hUC]
       show (if j=0 then UK k else if j=1 then usefulC ts q s (UK k) c1 else usefulC ts q s (usefulC ts q s (UK k) c1) c2).length<=40
       split
       ·omega
       ·split <;> omega
      have HLBS:Hid (y4.heap.size=lb):=hlb.symm;clear hd5 hx5 HST' hUC;go_wp2;rw[<- hlb] at *;clear hy5;go_loopw [5,55] (fun pv xv wx=>∃ j:Nat,j<=2/\xv=.int .i64 (j:Int)/\(∃ a m c,pv=.slice a m c)/\Hid (StepO F w1 (UC j) pv wx/\wx.cell? (aD lb 0)=some (.int .i64 c1)/\wx.cell? (aD lb 1)=some (.int .i64 c2)/\pv.ownBlock≠some lb)) (fun _ xv _=>2-(intOf xv).toNat)
      case atStart=>exact⟨0,by omega,rfl,⟨_,_,_,rfl⟩,by show StepO _ _ _ _ _/\_; rw[HU.out.1]; exact HI5.out⟩
      case round=>
       obtain⟨j,hj,rfl,⟨qa,qm,qc,rfl⟩,HJ⟩:=hrel;by_cases hj2:j<2
       ·have hcj:∃ col,wr.cell? (aD lb j)=some (.int .i64 col)/\ColOk ts q [col]/\UC (j+1)=usefulC ts q s (UC j) col:=by
         have hj01:j=0∨j=1:=by omega
         rcases hj01 with rfl | rfl
         ·exact⟨c1,HJ.out.2.1,HK1.out.1,HU.out.2.1⟩
         ·exact⟨c2,HJ.out.2.2.1,HK1.out.2,HU.out.2.2.1⟩
        obtain⟨col,hcol,hcok,hnx⟩:=hcj;have HJO:=HJ.out;have hfz:=HFZ.out wr _ _ HJO.1;have hf:=HFB.out wr hfz.2.2.1;have a0:wr.cell? (aD w.heap.size 0)=some (v0):=hf.cell 0;have a1:wr.cell? (aD w.heap.size 1)=some (.slice q.wad q.wh.length q.wcap):=hf.cell 1;have a2:wr.cell? (aD w.heap.size 2)=some (v2):=hf.cell 2;have a3:wr.cell? (aD w.heap.size 3)=some (v3):=hf.cell 3;have a4:wr.cell? (aD w.heap.size 4)=some (v4):=hf.cell 4;have a5:wr.cell? (aD w.heap.size 5)=some (v5):=hf.cell 5;have a6:wr.cell? (aD w.heap.size 6)=some (v6):=hf.cell 6;have a7:wr.cell? (aD w.heap.size 7)=some (v7):=hf.cell 7;have a8:wr.cell? (aD w.heap.size 8)=some (v8):=hf.cell 8;have a9:wr.cell? (aD w.heap.size 9)=some (v9):=hf.cell 9;have a10:wr.cell? (aD w.heap.size 10)=some (v10):=hf.cell 10;have a11:wr.cell? (aD w.heap.size 11)=some (v11):=hf.cell 11;have a12:wr.cell? (aD w.heap.size 12)=some (v12):=hf.cell 12;obtain⟨z1,hz1⟩:∃ x,wr.alloc (.cells #[.int .i64 col] 3)=x:=⟨_,rfl⟩
        have hd1:Below wr.heap.size wr z1:=by rw[<- hz1]; exact bQ2 _ _
        have hx1:z1.cell? (aD wr.heap.size 0)=some (.int .i64 col):=by rw[<- hz1]; simp
        have hSO:=HSO.out z1 ⟨some (aD wr.heap.size 0),1,[col]⟩ (bQ1 hfz.2.1 hd1) (ints_one (F:=fun _=>True) hx1 trivial).at' hcok;change Calls Tryz.prog 68 #[.agg #[v0,.slice q.wad q.wh.length q.wcap,v2,v3,v4,v5,v6,v7,v8,v9,v10,v11,v12],.slice (some (aD wr.heap.size 0)) 1 1] z1 _ at hSO;have hCV:=fun x=>HCV.out [col] x hcok
        have HB1':Hid (Below wr.heap.size wr z1):=hd1;have HJB:Hid (∀ x,Below wr.heap.size wr x->StepO F w1 (UC j) (.slice qa qm qc) x/\x.cell? (aD lb 0)=some (.int .i64 c1)/\x.cell? (aD lb 1)=some (.int .i64 c2)/\(Value.slice qa qm qc).ownBlock≠some lb):=fun x hx=>⟨HJO.1.below hx,cB hx HJO.2.1,cB hx HJO.2.2.1,HJO.2.2.2⟩
        unfold usefulC at hnx;have HNX2:Hid _:=hnx;clear hf hfz hd1 hx1 hcok hnx HJO;generalize setN (srcL ts q [col])=sc at *;obtain⟨wq,hwq⟩:∃ x,x=wr:=⟨_,rfl⟩
        subst hwq;go_wp2_with fail;refine hSO.mono ?_;rintro e z2 ⟨rfl,hb2⟩;have HB2':Hid (Below wq.heap.size wq z2):=bQ1 HB1'.out hb2;have hCV2:=hCV z2;clear hSO hb2 hz1 hCV a0 a1 a2 a3 a4 a5 a6 a7 a8 a9 a10 a11 a12 hcol;go_wp2_with fail;refine hCV2.mono ?_;rintro e zz ⟨rfl,hzz⟩;have hzz':=hzz.symm;subst hzz';clear hCV2;generalize coversB s sc=CB2 at *
        cases CB2 with
        | false =>
         have HN3:Hid (UC (j+1)=UC j):=HNX2.out;have HF:Hid _:=HJB.out z2 HB2'.out;clear HNX2;go_wp2;go_roundw
         case rel=>exact⟨j+1,by omega,by go_num,⟨_,_,_,rfl⟩,by show StepO _ _ _ _ _/\_; rw[HN3.out]; exact HF.out⟩
         case measure=>simp[intOf]; omega
        | true =>
         have HN3:Hid (UC (j+1)=addedN (UC j) [col]):=HNX2.out;obtain⟨z3,hz3⟩:∃ x,z2.alloc (.cells #[.int .i64 col] 3)=x:=⟨_,rfl⟩
         have hd3:Below z2.heap.size z2 z3:=by rw[<- hz3]; exact bQ2 _ _
         have hx3:z3.cell? (aD z2.heap.size 0)=some (.int .i64 col):=by rw[<- hz3]; simp
         have hJ3:=HJB.out z3 (bQ1 HB2'.out hd3);have hJ2:=HJB.out z2 HB2'.out;have hfz2:=HFZ.out z2 _ _ hJ2.1;have hAD:=addO hJ3.1 (by have:=HUCL.out j; omega) ⟨some (aD z2.heap.size 0),1,[col]⟩ (ints_one hx3 (hfz2.1.high _ (Nat.le_refl _))) (by simp);change Calls Tryz.prog 69 #[.slice qa qm qc,.slice (some (aD z2.heap.size 0)) 1 1] z3 _ at hAD;have HJ3:Hid _:=hJ3;clear HNX2 hd3 hx3 hJ3 hJ2 hfz2;go_wp2_with fail;refine hAD.mono ?_;rintro e z4 ⟨v',rfl,⟨ra,rm,rc,rfl⟩,hst,hk4,hat4⟩;have HF:Hid (StepO F w1 (UC (j+1)) (.slice ra rm rc) z4/\z4.cell? (aD lb 0)=some (.int .i64 c1)/\z4.cell? (aD lb 1)=some (.int .i64 c2)/\(Value.slice ra rm rc).ownBlock≠some lb):=by
          refine⟨by rw[HN3.out]; exact hst,cell_keepO hk4 HJ3.out.2.1 HJ3.out.2.2.2,cell_keepO hk4 HJ3.out.2.2.1 HJ3.out.2.2.2,fun e=>?_⟩;rcases hat4 with h | ⟨g,h,hg⟩
          ·exact HJ3.out.2.2.2 (h ▸ e)
          ·rw[h] at e;injection e with e;have hlt3:lb<z3.heap.size:=cell_lt HJ3.out.2.1;omega
         clear hAD hst hk4 hat4 hz3;go_wp2;go_roundw
         case rel=>exact⟨j+1,by omega,by go_num,⟨_,_,_,rfl⟩,HF.out⟩
         case measure=>simp[intOf]; omega
       ·have hje:j=2:=by omega
        have HF:Hid (StepO F w1 (UK (k+1)) (.slice qa qm qc) wr):=by
         have:=HJ.out.1;rw[hje,HU.out.2.2.2] at this;exact this
        clear hje;go_wp2;go_roundw
        case rel=>exact⟨k+1,by omega,by go_num,⟨_,_,_,rfl⟩,HF.out⟩
        case measure=>simp[intOf]; omega
   ·have hkw:q.wh.length=k:=by omega
    have HF:Hid (∃ os,OrdsIn 22 F w.heap.size wr (.slice pa pm pc) os/\os.map IntsV.xs=R/\Below w.heap.size w wr):=by
     refine HFEND.out wr _ _ ?_;have:=HSK.out;rw[<- hkw,HUE.out] at this;exact this
    clear hkw;go_wp2;go_ret;obtain⟨os,h1,h2,h3⟩:=HF.out;exact⟨_,os,rfl,h1,h2,h3⟩
end Go.Proofs.YtlpbelhfpoilpabGreatDoor
