import Derived.Test.YtlpbelhfpoilpaaGreatDoorRE06
set_option linter.all false
set_option maxRecDepth 100000
set_option maxHeartbeats 16000000
namespace Go.Proofs.Zz
open Go.RowKit Go.Shelf
variable {c:Value->Array Value} {k lc mb n qb r:Nat} {A A1 B S W0:World} {p:Int} {v:Value} {lo:Option Addr} {l xs:List Int} {ts:List af} {e tq:TypeId}
def mD(c n:Int):Int:=Int.tmod (if c<0 then -(c+1) else c) n
theorem oK{c n:Int}(hn:0<n):0<=mD c n/\mD c n<n:=by
 unfold mD;have h:0<=(if c<0 then -(c+1) else c):=by split <;> omega
 exact⟨Int.tmod_nonneg _ h,Int.tmod_lt_of_pos _ hn⟩
theorem gX{p:Addr}(h:A.cell? p=some v)(hk:Kept (fun _=>True) A B):B.cell? p=some v:=
 (Zw (hk.block _ (Zv h) trivial)).trans h
theorem CW{A B:World}{p:Addr}{v:Value}{n:Nat}(h:A.cell? p=some v)(hk:Kept (fun b=>b≠n) A B)(hp:p.block≠n):B.cell? p=some v:=
 (Zw (hk.block _ (Zv h) hp)).trans h
structure aL(mb:Nat)(lo:Option Addr)(lc:Nat)(l:List Int)(W:World):Prop where
 num:∃ k:Nat,k<=l.length/\W.cell? (aD mb 1)=some (.int .i64 k)
 lst:W.cell? (aD mb 0)=some (.slice lo l.length lc)
 thaw:W.frozen? (aD mb 1)=false
 ints:aB W lo l
 off:∀ a,lo=some a->a.block≠mb
theorem aL.keep{mb:Nat}{lo:Option Addr}{lc:Nat}{l:List Int}{A B:World}(h:aL mb lo lc l A)(hk:Kept (fun _=>True) A B):aL mb lo lc l B:=by
 obtain⟨k,hk1,hk2⟩:=h.num;exact⟨⟨k,hk1,gX hk2 hk⟩,gX h.lst hk,(ZQ (a:=(aD mb 1)) (hk.block mb (Zv (p:=(aD mb 0)) h.lst) trivial)).trans h.thaw,⟨h.ints.1,h.ints.2.keep fun a ha hlt=>hk.block _ hlt trivial⟩,h.off⟩
theorem aL.more(h:aL mb lo lc l A)(hk:k<=l.length):aL mb lo lc l (A.setCell (aD mb 1) (.int .i64 k)):=by
 obtain⟨k0,_,hk2⟩:=h.num;have hkk:Kept (fun b=>b≠mb) A (A.setCell (aD mb 1) (.int .i64 k)):=⟨rfl,rfl,rfl,by simp[World.setCell],fun b _ hb=>Below.heap_setCell A _ _ b hb⟩
 refine⟨⟨k,hk,World.cell?_setCell_same' _ _ _ (by rw[hk2]; rfl)⟩,?_,by rw[World.frozen?_setCell]; exact h.thaw,⟨h.ints.1,h.ints.2.keep fun a ha hlt=>hkk.block _ hlt (h.off a ha)⟩,h.off⟩;exact(World.cell?_setCell_other A (aD mb 1) (aD mb 0) (.int .i64 k) (fun e=>by cases e)).trans h.lst
theorem uC(c n:Int)(w:World)(hn:0<n)(hc:-9223372036854775808<=c/\c<=9223372036854775807) :
  Ce 22 #[.int .i64 c,.int .i64 n] w (.int .i64 (mD c n)):=by
 have hn0:¬ n=0:=by omega
 by_cases h0:c<0
 ·have hw1:wrap64 (c+1)=c+1:=by unfold wrap64; omega
  have hw2:wrap64 (-(c+1)) = -(c+1):=by unfold wrap64; omega
  have hR:mD c n = -((c+1).tmod n):=by unfold mD; rw[Qy h0,Int.neg_tmod]
  rw[hR];clear hR;go_enter Tryz.func22,Tryz.ntmps22;go_wp2;go_ret;exact⟨rfl,rfl⟩
 ·have hR:mD c n=c % n:=by unfold mD; rw[Qz h0,Int.tmod_eq_emod_of_nonneg (by omega)]
  rw[hR];clear hR;go_enter Tryz.func22,Tryz.ntmps22;go_wp2;go_ret;exact⟨rfl,rfl⟩
theorem aat(mb:Nat)(lo:Option Addr)(lc:Nat)(l:List Int)(n:Int)(W:World)(hm:aL mb lo lc l W)(hn:0<n)(hl:∀ x∈l,-9223372036854775808<=x/\x<=9223372036854775807) :
  Calls Tryz.prog 48 #[.pointer (some (aD mb 0)),.int .i64 n] W fun e W'=>∃ k:Int,e=.returned (.int .i64 k)/\0<=k/\k<n/\aL mb lo lc l W'/\Kept (fun b=>b≠mb) W W':=by
 obtain⟨k,hk,hck⟩:=hm.num;have hcl:=hm.lst;have hth:=hm.thaw;have hlen:=hm.ints.1;have HM:=Zh hm;have HL:=Zh hl;clear hm hl;by_cases hlt:k<l.length
 ·have hge:¬ (k:Int) ≥ (l.length:Int):=by omega
  obtain⟨b,off,rfl,hcs⟩:=HM.o.ints.get hlt;have hcx:=hcs k hlt;have hxr:=HL.o l[k] (Qp hlt);have e1:l.getD k 0=l[k]:=by simp[List.getD,hlt]
  rw[e1]at hcx;generalize l[k]=x at *;have hbm:b≠mb:=HM.o.off _ rfl;clear hcs e1;go_enter Tryz.func48,Tryz.ntmps48;go_wp2;go_quiet (fail);go_wp2;have hM1:=aL.more (aL.keep HM.o (Z5 W nq)) (k:=k+1) (by omega);have hk1:Kept (fun b=>b≠mb) W ((W.drewN nq).setCell (aD mb 1) (.int .i64 ((k+1:Nat):Int))):=(Z5 W nq).trans ⟨rfl,rfl,rfl,by simp[World.setCell],fun b _ hb=>Below.heap_setCell _ _ _ b hb⟩;have asD:=CW hcx hk1 hbm;obtain⟨W2,hW2⟩:∃ W2,(W.drewN nq).setCell (aD mb 1) (.int .i64 ((k+1:Nat):Int))=W2:=⟨_,rfl⟩
  have hW3:(W.drewN nq).setCell (aD mb 1) (.int .i64 ((k:Int)+1))=W2:=hW2;rw[hW2]at hM1 hk1 asD;rw[hW3];obtain⟨k2,_,akd⟩:=hM1.num;have hk2:W2.cell? (aD mb 1)=some (.int .i64 ((k:Int)+1)):=by
   rw[<- hW2];exact World.cell?_setCell_same' _ _ _ (by rw[gX hck (Z5 W nq)]; rfl)
  have Pw:=hM1.lst;have HM1:=Zh hM1;have oG:=Zh hk1;clear hM1 hk1 hW2 hW3 akd hck hcl hcx HM;have hpk:=fun W=>uC x n W hn hxr
  go_quiet ((go_at_call 22; exact Calls.quiet_of_same (hpk _)));go_wp2;go_ret;have hr:=oK (c:=x) hn;exact⟨_,rfl,hr.1,hr.2,aL.keep HM1.o (Z5 _ _),oG.o.trans (Z5 _ _)⟩
 ·have hge:(k:Int) ≥ (l.length:Int):=by omega
  go_enter Tryz.func48,Tryz.ntmps48;go_wp2;go_quiet (fail);go_wp2;go_ret;exact⟨0,rfl,by omega,hn,aL.keep HM.o (Z5 _ _),Z5 _ _⟩
def X9:=@CW
def Ja:=@aat
def H6:Array Value:=#[.int .i64 0,.int .i64 1,.int .i64 7,.int .i64 20,.int .i64 100,.int .i64 5000,.int .i64 1000000]
def Ao:Array Value:=#[.int .i64 1,.int .i64 2,.int .i64 5,.int .i64 10,.int .i64 1000000]
theorem adE(h:r<7):∃ x:Int,H6[r]? = some (.int .i64 x)/\0<=x/\x<=1000000:=by
 match r,h with
 | 0,_ => exact⟨0,rfl,by omega,by omega⟩
 | 1,_ => exact⟨1,rfl,by omega,by omega⟩
 | 2,_ => exact⟨7,rfl,by omega,by omega⟩
 | 3,_ => exact⟨20,rfl,by omega,by omega⟩
 | 4,_ => exact⟨100,rfl,by omega,by omega⟩
 | 5,_ => exact⟨5000,rfl,by omega,by omega⟩
 | 6,_ => exact⟨1000000,rfl,by omega,by omega⟩
theorem aau(h:r<5):∃ x:Int,Ao[r]? = some (.int .i64 x)/\1<=x/\x<=1000000:=by
 match r,h with
 | 0,_ => exact⟨1,rfl,by omega,by omega⟩
 | 1,_ => exact⟨2,rfl,by omega,by omega⟩
 | 2,_ => exact⟨5,rfl,by omega,by omega⟩
 | 3,_ => exact⟨10,rfl,by omega,by omega⟩
 | 4,_ => exact⟨1000000,rfl,by omega,by omega⟩
theorem aL.lt(h:aL mb lo lc l A):mb<A.heap.size:=Zv (p:=(aD mb 0)) h.lst
theorem aL.alloc{mb:Nat}{lo:Option Addr}{lc:Nat}{l:List Int}{A:World}(h:aL mb lo lc l A)(o:Obj):aL mb lo lc l (A.alloc o):=h.keep (Zr _ _)
theorem aL.set(h:aL mb lo lc l A){G i:Nat}(v:Value)(h1:G≠mb)(h2:∀ a,lo=some a->a.block≠G):aL mb lo lc l (A.setCell (aD G i) v):=by
 have hk:Kept (fun b=>b≠G) A (A.setCell (aD G i) v):=ZL _ _ _ (fun h=>h rfl);obtain⟨k,hk1,hk2⟩:=h.num;exact⟨⟨k,hk1,X9 hk2 hk (Ne.symm h1)⟩,X9 h.lst hk (Ne.symm h1),(ZQ (a:=(aD mb 1)) (hk.block mb h.lt (Ne.symm h1))).trans h.thaw,⟨h.ints.1,h.ints.2.keep fun a ha hlt=>hk.block _ hlt (h2 a ha)⟩,h.off⟩
structure CX(t:af)(k:Nat):Prop where
 c1:1<=t.aO
 c3:t.aO<=3
 r0:0<=t.rows
 r1:t.rows<=1000000
 kd:∀ m,m<k->1<=t.kd m/\t.kd m<=1000000
theorem U6(mb:Nat)(lo:Option Addr)(lc:Nat)(l:List Int)(W:World)(hm:aL mb lo lc l W)(hl:∀ x∈l,-9223372036854775808<=x/\x<=9223372036854775807)(hlo:∀ a,lo=some a->a.block<W.heap.size) :
  Calls Tryz.prog 49 #[.pointer (some (aD mb 0))] W fun e W'=>∃ t:af,e=.returned (.agg t.vals)/\CX t t.aO.toNat/\aL mb lo lc l W'/\Kept (fun b=>b≠mb) W W':=by
 have hmb:=hm.lt;have hM1:=hm.alloc (.cells tz.vals 80);have hG1:=GB.alloc W tz.vals 80;have hk1:Kept (fun b=>b≠mb) W (W.alloc (.cells tz.vals 80)):=Zr _ _;obtain⟨W1,hW1⟩:=eX (W.alloc (.cells tz.vals 80))
 rw[hW1]at hM1 hG1 hk1;have hs1:W1.heap.size=W.heap.size+1:=by rw[<- hW1]; simp
 have hn1:=Ja mb lo lc l 3 W1 hM1 (by omega) hl;have hW1':W.alloc (.cells #[.int .i64 0,.int .i64 0,.int .i64 0,.int .i64 0,.int .i64 0,.int .i64 0] 80)=W1:=hW1;have HL:=Zh hl;have uB:=Zh hlo;clear hl hlo hM1 hm hW1;have pO:=Zh hs1;clear hs1;go_enter Tryz.func49,Tryz.ntmps49;go_wp2_with fail;refine hn1.mono ?_;rintro e W2 ⟨r1,rfl,hr1,hr1',hM2,hk2⟩;clear hW1' hn1;have Lt:=hk1.trans hk2;have hra:W.heap.size≠mb:=by omega
 have hG2:=hG1.keep hk2 hra;have hw1:wrap64 (1+r1)=1+r1:=by unfold wrap64; omega
 have hs2:=hk2.size;have zJ:=(hM2.alloc (.cells #[.int .i64 (1+r1),.int .i64 0,.int .i64 0,.int .i64 0,.int .i64 0,.int .i64 0] 80)).alloc (.cells H6 3);have hn2:=Ja mb lo lc l 7 _ zJ (by omega) HL.o;have hG3:GB ((W2.alloc (.cells #[.int .i64 (1+r1),.int .i64 0,.int .i64 0,.int .i64 0,.int .i64 0,.int .i64 0] 80)).alloc (.cells H6 3)) W2.heap.size 80 #[.int .i64 (1+r1),.int .i64 0,.int .i64 0,.int .i64 0,.int .i64 0,.int .i64 0]:=
  (GB.alloc _ _ _).keep (Zr (s:=fun _=>True) _ _) trivial
 have aif:GB ((W2.alloc (.cells #[.int .i64 (1+r1),.int .i64 0,.int .i64 0,.int .i64 0,.int .i64 0,.int .i64 0] 80)).alloc (.cells H6 3)) (W2.heap.size+1) 3 H6:=by
  have:=GB.alloc (W2.alloc (.cells #[.int .i64 (1+r1),.int .i64 0,.int .i64 0,.int .i64 0,.int .i64 0,.int .i64 0] 80)) H6 3
  rwa [Zt]at this
 have hk3:∀ s,Kept s W2 ((W2.alloc (.cells #[.int .i64 (1+r1),.int .i64 0,.int .i64 0,.int .i64 0,.int .i64 0,.int .i64 0] 80)).alloc (.cells H6 3)):=fun s=>(Zr _ _).trans (Zr _ _)
 have aih:=hG2.keep (hk3 (fun _=>True)) trivial;have azo:=hM2.lt;obtain⟨W3,hW3⟩:∃ W3,(W2.alloc (.cells #[.int .i64 (1+r1),.int .i64 0,.int .i64 0,.int .i64 0,.int .i64 0,.int .i64 0] 80)).alloc (.cells H6 3)=W3:=⟨_,rfl⟩
 rw[hW3]at hn2 hG3 aif aih hk3;unfold H6 at hW3;clear hM2 zJ hG1 hG2 hk1;go_wp2_with fail;refine hn2.mono ?_;rintro e W4 ⟨r2,rfl,hr2,hr2',Wy,hk4⟩;clear hW3 hn2;obtain⟨rn,rfl⟩:∃ rn:Nat,r2=(rn:Int):=⟨r2.toNat,by omega⟩
 have hrn:rn<7:=by omega
 have htb:W2.heap.size≠mb:=by omega
 have hG4:=hG3.keep hk4 htb;have amm:=aif.keep hk4 (show W2.heap.size+1≠mb by omega);have zK:=aih.keep hk4 hra;have aav:=(Lt.trans (hk3 _)).trans hk4;obtain⟨x,hx,hx0,hx1⟩:=adE hrn;have hcx:=(amm.cell rn).trans hx;have hct:=hG4.cell 1;have hcf:=hG4.frozen 1;simp only[List.getElem?_toArray,List.getElem?_cons_succ,List.getElem?_cons_zero]at hct;have hG5:GB (W4.setCell (aD W2.heap.size 1) (.int .i64 x)) W2.heap.size 80 (⟨1+r1,x,0,0,0,0⟩:af).vals:=hG4.set 1 _;have zL:=Wy.set (i:=1) (.int .i64 x) htb (fun a ha=>by have:=uB.o a ha; have:=Lt.size; omega);have hk5:Kept (fun b=>b≠mb) W (W4.setCell (aD W2.heap.size 1) (.int .i64 x)):=aav.bW Lt.size _;have wK:GB (W4.setCell (aD W2.heap.size 1) (.int .i64 x)) W.heap.size 80 tz.vals:=zK.keep (s:=fun b=>b≠W2.heap.size) (ZL _ _ _ (fun h=>h rfl)) (by have:=pO.o; omega);have FW:Hid _:=hG5;have U7:=Zh zL;have HK5:=Zh hk5;have mJ:Hid _:=wK;have Py:=Zh Lt;clear hG5 zL hk5 wK Lt aav amm zK aih hG3 aif Wy hk4 hk3 hk2;go_wp2;go_loopw [4] (fun i wr=>∃ (k:Nat) (t:af),i=.int .i64 k/\(k:Int)<=t.aO/\CX t k/\GB wr W2.heap.size 80 t.vals/\GB wr W.heap.size 80 tz.vals/\aL mb lo lc l wr/\Kept (fun b=>b≠mb) W wr) (fun i wr=>10-(intOf i).toNat)
 case atStart=>exact⟨0,⟨1+r1,x,0,0,0,0⟩,rfl,by show (0:Int)<=1+r1; omega,⟨by show 1<=1+r1; omega,by show 1+r1<=3; omega,hx0,hx1,fun m h=>by omega⟩,FW.o,mJ.o,U7.o,HK5.o⟩
 case round=>
  obtain⟨k,⟨aO,rows,k0,k1,k2,k3⟩,rfl,hkc,hT,hGt,zK,hMr,hKr⟩:=hrel;have c0:=hGt.cell 0;have hcz:(⟨aO,rows,k0,k1,k2,k3⟩:af).vals[0]? = some (.int .i64 aO):=rfl;rw[hcz]at c0;simp only at hkc;have hc3:=hT.c3;simp only at hc3;clear hcz hG4 hct hcf hcx;by_cases hlt:(k:Int)<aO
  ·have hkk:k=0∨k=1∨k=2:=by omega
   have CY:=hMr.alloc (.cells Ao 3);have Wz:=Ja mb lo lc l 5 _ CY (by omega) HL.o;have hG6:=hGt.keep (Zr (s:=fun _=>True) wr (.cells Ao 3)) trivial;have aii:=GB.alloc wr Ao 3;have aij:=zK.keep (Zr (s:=fun _=>True) wr (.cells Ao 3)) trivial;have oI:=hKr.trans (Zr (s:=fun b=>b≠mb) wr (.cells Ao 3));have hmr:=hMr.lt;obtain⟨W6,hW6⟩:=eX (wr.alloc (.cells Ao 3))
   rw[hW6]at Wz hG6 aii aij oI;unfold Ao at hW6;clear CY;go_wp2_with fail;refine Wz.mono ?_;rintro e W7 ⟨r3,rfl,hr3,aik,Lu,lu⟩;clear hW6 Wz hMr;obtain⟨rn3,rfl⟩:∃ rn:Nat,r3=(rn:Int):=⟨r3.toNat,by omega⟩
   have asH:rn3<5:=by omega
   obtain⟨y,hy,hy0,hy1⟩:=aau asH;have hG7:=hG6.keep lu htb;have hcy:=((aii.keep lu (show wr.heap.size≠mb by omega)).cell rn3).trans hy;have amn:=aij.keep lu hra;have amo:=oI.trans lu;have d0:=hG7.cell 2;have d1:=hG7.cell 3;have d2:=hG7.cell 4;have e0:=hG7.frozen 2;have e1:=hG7.frozen 3;have e2:=hG7.frozen 4;have U8:=fun i=>Lu.set (G:=W2.heap.size) (i:=i) (.int .i64 y) htb (fun a ha=>by have:=uB.o a ha; have:=Py.o.size; omega)
   have hk8:=fun i=>amo.bW (G:=W2.heap.size) (i:=i) Py.o.size (.int .i64 y)
   have amq:=fun i=>amn.keep (s:=fun b=>b≠W2.heap.size) (ZL W7 (aD W2.heap.size i) (.int .i64 y) (fun h=>h rfl)) (by have:=pO.o; omega)
   have hG8:=fun i=>hG7.set i (.int .i64 y)
   have f0:(⟨aO,rows,k0,k1,k2,k3⟩:af).vals[2]? = some (.int .i64 k0):=rfl;have f1:(⟨aO,rows,k0,k1,k2,k3⟩:af).vals[3]? = some (.int .i64 k1):=rfl;have f2:(⟨aO,rows,k0,k1,k2,k3⟩:af).vals[4]? = some (.int .i64 k2):=rfl;rw[f0]at d0;rw[f1]at d1;rw[f2]at d2;have HG8:=Zh hG8;have ail:=Zh amq;have HM8:=Zh U8;have HK8:=Zh hk8;have HT:=Zh hT;clear hG8 amq U8 hk8 hT f0 f1 f2 hG7 amn amo Lu lu oI hG6 aii aij hGt zK hKr c0;rcases hkk with rfl | rfl | rfl
   ·go_wp2;go_roundw
    case rel=>exact⟨1,⟨aO,rows,y,k1,k2,k3⟩,rfl,by show (1:Int)<=aO; omega,⟨HT.o.c1,HT.o.c3,HT.o.r0,HT.o.r1,fun m hm=>by match m,hm with | 0,_=>exact⟨hy0,hy1⟩⟩,HG8.o 2,ail.o 2,HM8.o 2,HK8.o 2⟩
    case measure=>simp[intOf]
   ·go_wp2;go_roundw
    case rel=>exact⟨2,⟨aO,rows,k0,y,k2,k3⟩,rfl,by show (2:Int)<=aO; omega,⟨HT.o.c1,HT.o.c3,HT.o.r0,HT.o.r1,fun m hm=>by
     match m,hm with
     | 0,_ => exact HT.o.kd 0 (by omega)
     | 1,_ => exact⟨hy0,hy1⟩⟩,HG8.o 3,ail.o 3,HM8.o 3,HK8.o 3⟩
    case measure=>simp[intOf]
   ·go_wp2;go_roundw
    case rel=>exact⟨3,⟨aO,rows,k0,k1,y,k3⟩,rfl,by show (3:Int)<=aO; omega,⟨HT.o.c1,HT.o.c3,HT.o.r0,HT.o.r1,fun m hm=>by
     match m,hm with
     | 0,_ => exact HT.o.kd 0 (by omega)
     | 1,_ => exact HT.o.kd 1 (by omega)
     | 2,_ => exact⟨hy0,hy1⟩⟩,HG8.o 4,ail.o 4,HM8.o 4,HK8.o 4⟩
    case measure=>simp[intOf]
  ·have hce:aO=(k:Int):=by omega
   have g0:=hGt.cell 0;have g1:=hGt.cell 1;have g2:=hGt.cell 2;have g3:=hGt.cell 3;have g4:=hGt.cell 4;have g5:=hGt.cell 5;have r0:=zK.cell 0;have r1c:=zK.cell 1;have r2c:=zK.cell 2;have r3c:=zK.cell 3;have r4c:=zK.cell 4;have r5c:=zK.cell 5;have z0:=zK.frozen 0;have z1:=zK.frozen 1;have z2:=zK.frozen 2;have z3:=zK.frozen 3;have z4:=zK.frozen 4;have z5:=zK.frozen 5;simp only[af.vals,tz,List.getElem?_toArray,List.getElem?_cons_succ,List.getElem?_cons_zero]at g0 g1 g2 g3 g4 g5 r0 r1c r2c r3c r4c r5c;have HT:=Zh hT;have HMr:=Zh hMr;have HKr:=Zh hKr;have HCE:=Zh hce;have HGr:Hid _:=zK;clear hGt zK hT hMr hKr hce c0;have hGf:GB ((((((wr.setCell (aD W.heap.size 0) (.int .i64 aO)).setCell (aD W.heap.size 1) (.int .i64 rows)).setCell (aD W.heap.size 2) (.int .i64 k0)).setCell (aD W.heap.size 3) (.int .i64 k1)).setCell (aD W.heap.size 4) (.int .i64 k2)).setCell (aD W.heap.size 5) (.int .i64 k3)) W.heap.size 80 (⟨aO,rows,k0,k1,k2,k3⟩:af).vals:=
    (((((GB.set HGr.o 0 _).set 1 _).set 2 _).set 3 _).set 4 _).set 5 _
   have HGf:Hid _:=hGf;clear hGf;go_wp2;refine XE (Jb rfl _ _ W.heap.size 80 (⟨aO,rows,k0,k1,k2,k3⟩:af).vals (0,0) _ rfl HGf.o Tryz.underlying80 rfl (by kernel_rfl)) rfl ?_;have U9:∀ a,lo=some a->a.block≠W.heap.size:=fun a ha=>by have:=uB.o a ha; omega
   refine⟨⟨aO,rows,k0,k1,k2,k3⟩,rfl,?_,?_,?_⟩
   ·have:aO.toNat=k:=by have:=HCE.o; omega
    show CX _ aO.toNat
    rw[this];exact HT.o
   ·exact(((((aL.set HMr.o _ hra U9).set _ hra U9).set _ hra U9).set _ hra U9).set _ hra U9).set _ hra U9
   ·exact(((((Kept.bW HKr.o (Qx _) _).bW (Qx _) _).bW (Qx _) _).bW (Qx _) _).bW (Qx _) _).bW (Qx _) _
def aC.arr(c:aC):Array Value:=#[.bool c.not,.int .i64 c.op,.int .i64 c.left,.bool c.const,.int .i64 c.right]
structure asK(W:World)(G:Nat)(c:aC):Prop where
 c0:W.cell? (aD G 0)=some (.bool c.not)
 c1:W.cell? (aD G 1)=some (.int .i64 c.op)
 c2:W.cell? (aD G 2)=some (.int .i64 c.left)
 c3:W.cell? (aD G 3)=some (.bool c.const)
 c4:W.cell? (aD G 4)=some (.int .i64 c.right)
 f0:W.frozen? (aD G 0)=false
 f1:W.frozen? (aD G 1)=false
 f2:W.frozen? (aD G 2)=false
 f3:W.frozen? (aD G 3)=false
 f4:W.frozen? (aD G 4)=false
theorem GB.five{W:World}{G:Nat}{t:TypeId}{c:aC}(h:GB W G t c.arr):asK W G c:=
 ⟨h.cell 0,h.cell 1,h.cell 2,h.cell 3,h.cell 4,h.frozen 0,h.frozen 1,h.frozen 2,h.frozen 3,h.frozen 4⟩
theorem Va(mb:Nat)(lo:Option Addr)(lc:Nat)(l:List Int)(W:World)(hm:aL mb lo lc l W)(hl:∀ x∈l,-9223372036854775808<=x/\x<=9223372036854775807) :
  Calls Tryz.prog 51 #[.pointer (some (aD mb 0))] W fun e W'=>∃ v:Int,e=.returned (.int .i64 v)/\(v=1073741824∨(-1<=v/\v<=3))/\aL mb lo lc l W'/\Kept (fun b=>b≠mb) W W':=by
 have hn1:=Ja mb lo lc l 6 W hm (by omega) hl;go_enter Tryz.func51,Tryz.ntmps51;go_wp2_with fail;refine hn1.mono ?_;rintro e W2 ⟨r1,rfl,hr1,hr1',hM2,hk2⟩;clear hn1;by_cases h5:r1=5
 ·have h5':(r1==5)=true:=by simpa using h5
  clear h5;go_wp2;go_ret;exact⟨_,rfl,.inl rfl,hM2,hk2⟩
 ·have h5':(r1==5)=false:=by simpa using h5
  have hw:wrap64 (r1-1)=r1-1:=by unfold wrap64; omega
  have HR:Hid (-1<=r1-1/\r1-1<=3):=show _/\_ by omega
  clear h5;go_wp2;go_ret;exact⟨_,rfl,.inr HR.o,hM2,hk2⟩
theorem Lv(mb:Nat)(lo:Option Addr)(lc:Nat)(l:List Int)(n:Int)(W:World)(hm:aL mb lo lc l W)(hl:∀ x∈l,-9223372036854775808<=x/\x<=9223372036854775807)(hlo:∀ a,lo=some a->a.block<W.heap.size)(hn:0<n) :
  Calls Tryz.prog 95 #[.pointer (some (aD mb 0)),.int .i64 n] W fun e W'=>∃ c:aC,e=.returned (.agg c.arr)/\fu c n=true/\aL mb lo lc l W'/\Kept (fun b=>b≠mb) W W':=by
 have hmb:=hm.lt;have hM1:=hm.alloc (.cells cz.arr 134);have hG1:=GB.alloc W cz.arr 134;have hk1:Kept (fun b=>b≠mb) W (W.alloc (.cells cz.arr 134)):=Zr _ _;obtain⟨W1,hW1⟩:=eX (W.alloc (.cells cz.arr 134))
 rw[hW1]at hM1 hG1 hk1;have pO:Hid (W1.heap.size=W.heap.size+1):=show _=_ by rw[<- hW1]; simp
 have hn1:=Ja mb lo lc l 5 W1 hM1 (by omega) hl;have hW1':W.alloc (.cells #[.bool false,.int .i64 0,.int .i64 0,.bool false,.int .i64 0] 134)=W1:=hW1;have HL:=Zh hl;have uB:=Zh hlo;have hra:W.heap.size≠mb:=by omega
 clear hl hlo hM1 hm hW1;go_enter Tryz.func95,Tryz.ntmps95;go_wp2_with fail;refine hn1.mono ?_;rintro e W2 ⟨r1,rfl,hr1,hr1',hM2,hk2⟩;clear hW1' hn1;have hn2:=Ja mb lo lc l n W2 hM2 hn HL.o;obtain⟨nt,hnt⟩:∃ nt,(r1==1)=nt:=⟨_,rfl⟩
 go_wp2_with fail;refine hn2.mono ?_;rintro e W3 ⟨lf,rfl,hlf,azv,zJ,hk3⟩;clear hn2;have hs2:=hk2.size;have hs3:=hk3.size;have DZ:=(hk1.trans hk2).trans hk3;have aay:=(hG1.keep hk2 hra).keep hk3 hra;have Wy:=zJ.alloc (.cells (⟨nt,0,lf,false,0⟩:aC).arr 134);have aim:=GB.alloc W3 (⟨nt,0,lf,false,0⟩:aC).arr 134;have Vb:=aay.keep (Zr (s:=fun _=>True) W3 (.cells (⟨nt,0,lf,false,0⟩:aC).arr 134)) trivial;have hk4:=DZ.trans (Zr (s:=fun b=>b≠mb) W3 (.cells (⟨nt,0,lf,false,0⟩:aC).arr 134));obtain⟨W4,hW4⟩:=eX (W3.alloc (.cells (⟨nt,0,lf,false,0⟩:aC).arr 134))
 rw[hW4]at Wy aim Vb hk4;have Wz:=Ja mb lo lc l 6 W4 Wy (by omega) HL.o;have ams:W3.alloc (.cells #[.bool nt,.int .i64 0,.int .i64 lf,.bool false,.int .i64 0] 134)=W4:=hW4;have hcb:W3.heap.size≠mb:=by have:=zJ.lt; omega
 have qX:Hid (W.heap.size<=W3.heap.size/\W.heap.size≠W3.heap.size):=show _/\_ by have:=pO.o; omega
 clear Wy zJ hM2 aay DZ hG1 hk1 hk2 hk3 hW4 hs2 hs3;have HW4:=Zh ams;clear ams;go_wp2_with fail;rw[HW4.o];refine Wz.mono ?_;rintro e W5 ⟨r3,rfl,hr3,aik,zL,hk5⟩;clear HW4 Wz;have rT:=aim.keep hk5 hcb;have wK:=Vb.keep hk5 hra;have A8:=hk4.trans hk5;have hlo3:∀ a,lo=some a->a.block≠W3.heap.size:=fun a ha=>by have:=uB.o a ha; have:=qX.o; omega
 have hlo0:∀ a,lo=some a->a.block≠W.heap.size:=fun a ha=>by have:=uB.o a ha; omega
 have Lx:=Zh hlo3;have aaz:=Zh hlo0;clear aim Vb hk4 hk5 hlo3 hlo0;have FIN:Hid (∀ (Wx:World) (c:aC),GB Wx W.heap.size 134 cz.arr->aL mb lo lc l Wx->Kept (fun b=>b≠mb) W Wx->
   GB (((((Wx.setCell (aD W.heap.size 0) (.bool c.not)).setCell (aD W.heap.size 1) (.int .i64 c.op)).setCell (aD W.heap.size 2) (.int .i64 c.left)).setCell (aD W.heap.size 3) (.bool c.const)).setCell (aD W.heap.size 4) (.int .i64 c.right)) W.heap.size 134 c.arr/\
   aL mb lo lc l (((((Wx.setCell (aD W.heap.size 0) (.bool c.not)).setCell (aD W.heap.size 1) (.int .i64 c.op)).setCell (aD W.heap.size 2) (.int .i64 c.left)).setCell (aD W.heap.size 3) (.bool c.const)).setCell (aD W.heap.size 4) (.int .i64 c.right))/\
   Kept (fun b=>b≠mb) W (((((Wx.setCell (aD W.heap.size 0) (.bool c.not)).setCell (aD W.heap.size 1) (.int .i64 c.op)).setCell (aD W.heap.size 2) (.int .i64 c.left)).setCell (aD W.heap.size 3) (.bool c.const)).setCell (aD W.heap.size 4) (.int .i64 c.right))):=fun Wx c hG hM hK=>
  ⟨((((hG.set 0 _).set 1 _).set 2 _).set 3 _).set 4 _,((((hM.set _ hra aaz.o).set _ hra aaz.o).set _ hra aaz.o).set _ hra aaz.o).set _ hra aaz.o,
   ((((hK.bW (Qx _) _).bW (Qx _) _).bW (Qx _) _).bW (Qx _) _).bW (Qx _) _⟩
 have Wl:r3=0∨r3=1∨r3=2∨r3=3∨r3=4∨r3=5:=by omega
 rcases Wl with rfl | rfl | rfl | rfl | rfl | rfl
 ·have IP:=Ja mb lo lc l n W5 zL hn HL.o;go_wp2_with fail;refine IP.mono ?_;rintro e W6 ⟨rt,rfl,hrt,adF,CY,oI⟩;clear IP;have g6:=rT.keep oI hcb;have q4:=(GB.five g6).c4;have p4:=(GB.five g6).f4;have aaA:GB (W6.setCell (aD W3.heap.size 4) (.int .i64 rt)) W3.heap.size 134 (⟨nt,0,lf,false,rt⟩:aC).arr:=g6.set 4 _;have CZ:GB (W6.setCell (aD W3.heap.size 4) (.int .i64 rt)) W.heap.size 134 cz.arr:=(wK.keep oI hra).keep (s:=fun b=>b≠W3.heap.size) (ZL _ _ _ (fun h=>h rfl)) qX.o.2;have Lu:=CY.set (G:=W3.heap.size) (i:=4) (.int .i64 rt) hcb Lx.o;have lu:=(A8.trans oI).bW (G:=W3.heap.size) (i:=4) qX.o.1 (.int .i64 rt);have HB:Hid (fu ⟨nt,0,lf,false,rt⟩ n=true):=show _=_ by simp[fu]; try omega
  simp only at q4;clear rT wK zL A8 g6 CY oI;have hfin:=FIN.o _ (⟨nt,0,lf,false,rt⟩:aC) CZ Lu lu;have HF:=Zh hfin;have v:=GB.five aaA;have v0:=v.c0;have v1:=v.c1;have v2:=v.c2;have v3:=v.c3;have v4:=v.c4;have u:=GB.five CZ;have u0:=u.c0;have u1:=u.c1;have u2:=u.c2;have u3:=u.c3;have u4:=u.c4;have z0:=u.f0;have z1:=u.f1;have z2:=u.f2;have z3:=u.f3;have z4:=u.f4;simp only[cz]at v0 v1 v2 v3 v4 u0 u1 u2 u3 u4;clear hfin v u FIN;go_wp2;refine XE (Jb rfl _ _ W.heap.size 134 (⟨nt,0,lf,false,rt⟩:aC).arr (0,0) _ rfl HF.o.1 Tryz.underlying134 rfl (by kernel_rfl)) rfl ?_;exact⟨(⟨nt,0,lf,false,rt⟩:aC),rfl,HB.o,HF.o.2.1,HF.o.2.2⟩
 ·have IP:=Ja mb lo lc l n W5 zL hn HL.o;go_wp2_with fail;refine IP.mono ?_;rintro e W6 ⟨rt,rfl,hrt,adF,CY,oI⟩;clear IP;have g6:=rT.keep oI hcb;have q4:=(GB.five g6).c4;have p4:=(GB.five g6).f4;have aaA:GB (W6.setCell (aD W3.heap.size 4) (.int .i64 rt)) W3.heap.size 134 (⟨nt,0,lf,false,rt⟩:aC).arr:=g6.set 4 _;have CZ:GB (W6.setCell (aD W3.heap.size 4) (.int .i64 rt)) W.heap.size 134 cz.arr:=(wK.keep oI hra).keep (s:=fun b=>b≠W3.heap.size) (ZL _ _ _ (fun h=>h rfl)) qX.o.2;have Lu:=CY.set (G:=W3.heap.size) (i:=4) (.int .i64 rt) hcb Lx.o;have lu:=(A8.trans oI).bW (G:=W3.heap.size) (i:=4) qX.o.1 (.int .i64 rt);have HB:Hid (fu ⟨nt,0,lf,false,rt⟩ n=true):=show _=_ by simp[fu]; try omega
  simp only at q4;clear rT wK zL A8 g6 CY oI;have hfin:=FIN.o _ (⟨nt,0,lf,false,rt⟩:aC) CZ Lu lu;have HF:=Zh hfin;have v:=GB.five aaA;have v0:=v.c0;have v1:=v.c1;have v2:=v.c2;have v3:=v.c3;have v4:=v.c4;have u:=GB.five CZ;have u0:=u.c0;have u1:=u.c1;have u2:=u.c2;have u3:=u.c3;have u4:=u.c4;have z0:=u.f0;have z1:=u.f1;have z2:=u.f2;have z3:=u.f3;have z4:=u.f4;simp only[cz]at v0 v1 v2 v3 v4 u0 u1 u2 u3 u4;clear hfin v u FIN;go_wp2;refine XE (Jb rfl _ _ W.heap.size 134 (⟨nt,0,lf,false,rt⟩:aC).arr (0,0) _ rfl HF.o.1 Tryz.underlying134 rfl (by kernel_rfl)) rfl ?_;exact⟨(⟨nt,0,lf,false,rt⟩:aC),rfl,HB.o,HF.o.2.1,HF.o.2.2⟩
 ·have IP:=Ja mb lo lc l n W5 zL hn HL.o;go_wp2_with fail;refine IP.mono ?_;rintro e W6 ⟨rt,rfl,hrt,adF,CY,oI⟩;clear IP;have g6:=rT.keep oI hcb;have q4:=(GB.five g6).c4;have p4:=(GB.five g6).f4;have aaA:GB (W6.setCell (aD W3.heap.size 4) (.int .i64 rt)) W3.heap.size 134 (⟨nt,0,lf,false,rt⟩:aC).arr:=g6.set 4 _;have CZ:GB (W6.setCell (aD W3.heap.size 4) (.int .i64 rt)) W.heap.size 134 cz.arr:=(wK.keep oI hra).keep (s:=fun b=>b≠W3.heap.size) (ZL _ _ _ (fun h=>h rfl)) qX.o.2;have Lu:=CY.set (G:=W3.heap.size) (i:=4) (.int .i64 rt) hcb Lx.o;have lu:=(A8.trans oI).bW (G:=W3.heap.size) (i:=4) qX.o.1 (.int .i64 rt);have HB:Hid (fu ⟨nt,0,lf,false,rt⟩ n=true):=show _=_ by simp[fu]; try omega
  simp only at q4;clear rT wK zL A8 g6 CY oI;have hfin:=FIN.o _ (⟨nt,0,lf,false,rt⟩:aC) CZ Lu lu;have HF:=Zh hfin;have v:=GB.five aaA;have v0:=v.c0;have v1:=v.c1;have v2:=v.c2;have v3:=v.c3;have v4:=v.c4;have u:=GB.five CZ;have u0:=u.c0;have u1:=u.c1;have u2:=u.c2;have u3:=u.c3;have u4:=u.c4;have z0:=u.f0;have z1:=u.f1;have z2:=u.f2;have z3:=u.f3;have z4:=u.f4;simp only[cz]at v0 v1 v2 v3 v4 u0 u1 u2 u3 u4;clear hfin v u FIN;go_wp2;refine XE (Jb rfl _ _ W.heap.size 134 (⟨nt,0,lf,false,rt⟩:aC).arr (0,0) _ rfl HF.o.1 Tryz.underlying134 rfl (by kernel_rfl)) rfl ?_;exact⟨(⟨nt,0,lf,false,rt⟩:aC),rfl,HB.o,HF.o.2.1,HF.o.2.2⟩
 ·have h3c:=(GB.five rT).c3;have h3f:=(GB.five rT).f3;have Pz:GB (W5.setCell (aD W3.heap.size 3) (.bool true)) W3.heap.size 134 (⟨nt,0,lf,true,0⟩:aC).arr:=rT.set 3 _;have C8:GB (W5.setCell (aD W3.heap.size 3) (.bool true)) W.heap.size 134 cz.arr:=wK.keep (s:=fun b=>b≠W3.heap.size) (ZL _ _ _ (fun h=>h rfl)) qX.o.2;have CY:=zL.set (G:=W3.heap.size) (i:=3) (.bool true) hcb Lx.o;have oI:=A8.bW (G:=W3.heap.size) (i:=3) qX.o.1 (.bool true);have IP:=Ja mb lo lc l 5 _ CY (by omega) HL.o;simp only at h3c;go_wp2_with fail;refine IP.mono ?_;rintro e W7 ⟨rt,rfl,hrt,adF,Lu,lu⟩;clear IP CY;have hw:wrap64 (rt-1)=rt-1:=by unfold wrap64; omega
  have g7:=Pz.keep lu hcb;have q4:=(GB.five g7).c4;have p4:=(GB.five g7).f4;have ain:GB (W7.setCell (aD W3.heap.size 4) (.int .i64 (rt-1))) W3.heap.size 134 (⟨nt,0,lf,true,rt-1⟩:aC).arr:=g7.set 4 _;have H7:GB (W7.setCell (aD W3.heap.size 4) (.int .i64 (rt-1))) W.heap.size 134 cz.arr:=(C8.keep lu hra).keep (s:=fun b=>b≠W3.heap.size) (ZL _ _ _ (fun h=>h rfl)) qX.o.2;have U8:=Lu.set (G:=W3.heap.size) (i:=4) (.int .i64 (rt-1)) hcb Lx.o;have hk8:=(oI.trans lu).bW (G:=W3.heap.size) (i:=4) qX.o.1 (.int .i64 (rt-1));have HB:Hid (fu ⟨nt,0,lf,true,rt-1⟩ n=true):=show _=_ by simp[fu]; try omega
  simp only at q4;clear rT wK zL A8 g7 Lu lu Pz C8 oI h3c h3f;have hfin:=FIN.o _ (⟨nt,0,lf,true,(rt-1)⟩:aC) H7 U8 hk8;have HF:=Zh hfin;have v:=GB.five ain;have v0:=v.c0;have v1:=v.c1;have v2:=v.c2;have v3:=v.c3;have v4:=v.c4;have u:=GB.five H7;have u0:=u.c0;have u1:=u.c1;have u2:=u.c2;have u3:=u.c3;have u4:=u.c4;have z0:=u.f0;have z1:=u.f1;have z2:=u.f2;have z3:=u.f3;have z4:=u.f4;simp only[cz]at v0 v1 v2 v3 v4 u0 u1 u2 u3 u4;clear hfin v u FIN;go_wp2;refine XE (Jb rfl _ _ W.heap.size 134 (⟨nt,0,lf,true,(rt-1)⟩:aC).arr (0,0) _ rfl HF.o.1 Tryz.underlying134 rfl (by kernel_rfl)) rfl ?_;exact⟨(⟨nt,0,lf,true,(rt-1)⟩:aC),rfl,HB.o,HF.o.2.1,HF.o.2.2⟩
 ·have h1c:=(GB.five rT).c1;have h1f:=(GB.five rT).f1;have Pz:GB (W5.setCell (aD W3.heap.size 1) (.int .i64 1)) W3.heap.size 134 (⟨nt,1,lf,false,0⟩:aC).arr:=rT.set 1 _;have C8:GB (W5.setCell (aD W3.heap.size 1) (.int .i64 1)) W.heap.size 134 cz.arr:=wK.keep (s:=fun b=>b≠W3.heap.size) (ZL _ _ _ (fun h=>h rfl)) qX.o.2;have CY:=zL.set (G:=W3.heap.size) (i:=1) (.int .i64 1) hcb Lx.o;have oI:=A8.bW (G:=W3.heap.size) (i:=1) qX.o.1 (.int .i64 1);have IP:=Ja mb lo lc l n _ CY hn HL.o;simp only at h1c;go_wp2_with fail;refine IP.mono ?_;rintro e W7 ⟨rt,rfl,hrt,adF,Lu,lu⟩;clear IP CY;have g7:=Pz.keep lu hcb;have q4:=(GB.five g7).c4;have p4:=(GB.five g7).f4;have ain:GB (W7.setCell (aD W3.heap.size 4) (.int .i64 rt)) W3.heap.size 134 (⟨nt,1,lf,false,rt⟩:aC).arr:=g7.set 4 _;have H7:GB (W7.setCell (aD W3.heap.size 4) (.int .i64 rt)) W.heap.size 134 cz.arr:=(C8.keep lu hra).keep (s:=fun b=>b≠W3.heap.size) (ZL _ _ _ (fun h=>h rfl)) qX.o.2;have U8:=Lu.set (G:=W3.heap.size) (i:=4) (.int .i64 rt) hcb Lx.o;have hk8:=(oI.trans lu).bW (G:=W3.heap.size) (i:=4) qX.o.1 (.int .i64 rt);have HB:Hid (fu ⟨nt,1,lf,false,rt⟩ n=true):=show _=_ by simp[fu]; try omega
  simp only at q4;clear rT wK zL A8 g7 Lu lu Pz C8 oI h1c h1f;have hfin:=FIN.o _ (⟨nt,1,lf,false,rt⟩:aC) H7 U8 hk8;have HF:=Zh hfin;have v:=GB.five ain;have v0:=v.c0;have v1:=v.c1;have v2:=v.c2;have v3:=v.c3;have v4:=v.c4;have u:=GB.five H7;have u0:=u.c0;have u1:=u.c1;have u2:=u.c2;have u3:=u.c3;have u4:=u.c4;have z0:=u.f0;have z1:=u.f1;have z2:=u.f2;have z3:=u.f3;have z4:=u.f4;simp only[cz]at v0 v1 v2 v3 v4 u0 u1 u2 u3 u4;clear hfin v u FIN;go_wp2;refine XE (Jb rfl _ _ W.heap.size 134 (⟨nt,1,lf,false,rt⟩:aC).arr (0,0) _ rfl HF.o.1 Tryz.underlying134 rfl (by kernel_rfl)) rfl ?_;exact⟨(⟨nt,1,lf,false,rt⟩:aC),rfl,HB.o,HF.o.2.1,HF.o.2.2⟩
 ·have h1c:=(GB.five rT).c1;have h1f:=(GB.five rT).f1;have Pz:GB (W5.setCell (aD W3.heap.size 1) (.int .i64 2)) W3.heap.size 134 (⟨nt,2,lf,false,0⟩:aC).arr:=rT.set 1 _;have C8:GB (W5.setCell (aD W3.heap.size 1) (.int .i64 2)) W.heap.size 134 cz.arr:=wK.keep (s:=fun b=>b≠W3.heap.size) (ZL _ _ _ (fun h=>h rfl)) qX.o.2;have CY:=zL.set (G:=W3.heap.size) (i:=1) (.int .i64 2) hcb Lx.o;have oI:=A8.bW (G:=W3.heap.size) (i:=1) qX.o.1 (.int .i64 2);have HB:Hid (fu ⟨nt,2,lf,false,0⟩ n=true):=show _=_ by simp[fu]; try omega
  simp only at h1c;clear rT wK zL A8;have hfin:=FIN.o _ (⟨nt,2,lf,false,0⟩:aC) C8 CY oI;have HF:=Zh hfin;have v:=GB.five Pz;have v0:=v.c0;have v1:=v.c1;have v2:=v.c2;have v3:=v.c3;have v4:=v.c4;have u:=GB.five C8;have u0:=u.c0;have u1:=u.c1;have u2:=u.c2;have u3:=u.c3;have u4:=u.c4;have z0:=u.f0;have z1:=u.f1;have z2:=u.f2;have z3:=u.f3;have z4:=u.f4;simp only[cz]at v0 v1 v2 v3 v4 u0 u1 u2 u3 u4;clear hfin v u FIN;go_wp2;refine XE (Jb rfl _ _ W.heap.size 134 (⟨nt,2,lf,false,0⟩:aC).arr (0,0) _ rfl HF.o.1 Tryz.underlying134 rfl (by kernel_rfl)) rfl ?_;exact⟨(⟨nt,2,lf,false,0⟩:aC),rfl,HB.o,HF.o.2.1,HF.o.2.2⟩
def Jc:=@GB.five
theorem yA{n:Int}(h:bN xs n=true)(h0:0<=p)(h1:p<n):bN (xs++[p]) n=true:=by
 unfold bN at *;rw[List.all_append,h];simp[h0,h1]
theorem any_succ(hk:k<xs.length):((xs.take (k+1)).any fun x=>x==p)=(((xs.take k).any fun x=>x==p) || (xs.getD k 0==p)):=by
 rw[Qr hk,List.any_append];simp[List.getD,hk]
theorem PE(h:di xs=true)(hp:(xs.any fun x=>x==p)=false):di (xs++[p])=true:=by
 unfold di at *;rw[QJ]at *;intro i hi j hj;rw[Zb,Jd]at hi;have hg:∀ m,m<xs.length->(xs++[p]).getD m 0=xs.getD m 0:=fun m hm=>by simp[List.getD,List.getElem?_append,hm]
 by_cases hl:i<xs.length
 ·rw[hg i hl,hg j (by omega)];exact h i hl j hj
 ·have hi':i=xs.length:=by omega
  subst hi';rw[hg j hj];have hl2:(xs++[p]).getD xs.length 0=p:=by simp[List.getD]
  rw[hl2];intro e;rw[List.any_eq_false]at hp;have hm:xs.getD j 0∈xs:=by simp[List.getD,hj]
  exact hp _ hm (by rw[<- e]; simp)
theorem aL.grown{mb:Nat}{lo:Option Addr}{lc:Nat}{l:List Int}{A B:World}(h:aL mb lo lc l A){row:Option Nat}(hg:A.grownBy B row)(h1:row≠some mb)(h2:∀ a,lo=some a->row≠some a.block):aL mb lo lc l B:=by
 have hk:Kept (fun b=>row≠some b) A B:=ZM hg (fun r e h=>h e);obtain⟨k,hk1,hk2⟩:=h.num;exact⟨⟨k,hk1,ZI hk2 hk h1⟩,ZI h.lst hk h1,(ZQ (a:=(aD mb 1)) (hk.block mb h.lt h1)).trans h.thaw,⟨h.ints.1,h.ints.2.keep fun a ha hlt=>hk.block _ hlt (h2 a ha)⟩,h.off⟩
theorem wL(mb:Nat)(lo:Option Addr)(lc:Nat)(l:List Int)(n:Int)(most:Nat)(W:World)(hm:aL mb lo lc l W)(hl:∀ x∈l,-9223372036854775808<=x/\x<=9223372036854775807)(hlo:∀ a,lo=some a->a.block<W.heap.size)(hn:0<n)(hmo:most<=100) :
  Calls Tryz.prog 96 #[.pointer (some (aD mb 0)),.int .i64 n,.int .i64 most] W fun e W'=>∃ (v:Value) (xs:List Int),e=.returned v/\W'.ownsRow W.heap.size 3 1 v xs.length (xs.map (Value.int .i64))/\bN xs n=true/\di xs=true/\xs.length<=most/\aL mb lo lc l W'/\Kept (fun b=>b≠mb) W W':=by
 obtain⟨i0,hi,hz0,hz1,hz2⟩:=ZU Tryz.kV;have hmb:=hm.lt;have hn1:=Ja mb lo lc l ((most:Int)+1) W hm (by omega) hl;have hw1:wrap64 ((most:Int)+1)=(most:Int)+1:=by unfold wrap64; omega
 have HL:=Zh hl;have uB:=Zh hlo;clear hl hlo hm;go_enter Tryz.func96,Tryz.ntmps96;go_wp2_with fail;refine hn1.mono ?_;rintro e W2 ⟨r1,rfl,hr1,hr1',hM2,hk2⟩;obtain⟨k1,rfl⟩:∃ k:Nat,r1=(k:Int):=⟨r1.toNat,by omega⟩
 clear hn1 hw1;go_wp2;go_loopw [7,8] (fun v i wr=>∃ (k:Nat) (xs:List Int),i=.int .i64 k/\xs.length+k<=most/\wr.ownsRow W.heap.size 3 1 v xs.length (xs.map (Value.int .i64))/\Hid (bN xs n=true/\di xs=true)/\aL mb lo lc l wr/\Kept (fun b=>b≠mb) W wr) (fun _ i _=>(intOf i).toNat)
 case atStart=>exact⟨k1,[],rfl,by simp; omega,ZV _ _ _ _,⟨rfl,rfl⟩,hM2,hk2⟩
 case round=>
  obtain⟨k,xs,rfl,hkm,hown,hok,hM,hK⟩:=hrel;clear hM2 hk2;by_cases h0:0<k
  ·skip;have hn2:=Ja mb lo lc l n wr hM hn HL.o;go_wp2_with fail;refine hn2.mono ?_;rintro e W3 ⟨p,rfl,hp0,hp1,zJ,hk3⟩;clear hn2;have hown3:=ZN hown hk3 (fun g hg=>by have:=(ZO hown hg).1; omega);have aio:=hK.trans hk3;obtain⟨iv,qw,pJ,kD,-⟩:=kW hown3 (by omega);obtain⟨mU,fH,jC⟩:=iv;simp only at pJ;subst pJ;unfold ah.val at qw;simp only at qw;subst qw;have hints:=kD.1;have HI:Hid _:=hints;clear hown hM hK kD hints;go_wp2;go_loopw [10,11] (fun tw i ws=>∃ (m:Nat),m<=jC.length/\i=.int .i64 m/\tw=.bool ((jC.take m).any fun x=>x==p)/\W3=ws) (fun _ i _=>jC.length-(intOf i).toNat)
   case atStart=>exact⟨0,Q8 _,rfl,rfl,rfl⟩
   case round=>
    obtain⟨m,hm,rfl,rfl,rfl⟩:=hrel;by_cases Ka:m<jC.length
    ·obtain⟨b,off,rfl,hcs⟩:=HI.o.get Ka;have hcm:=hcs m Ka;have HS:=Zh (any_succ (p:=p) Ka);generalize jC.getD m 0=y at *;generalize ((jC.take m).any fun x=>x==p)=tw at *;clear hcs
     cases tw with
     | true =>
      go_wp2;go_roundw
      case rel=>exact⟨m+1,by omega,by go_num,by rw[HS.o]; rfl,trivial⟩
      case measure=>simp[intOf]; omega
     | false =>
      go_wp2;go_roundw
      case rel=>exact⟨m+1,by omega,by go_num,by rw[HS.o]; simp,trivial⟩
      case measure=>simp[intOf]; omega
    ·have hmm:m=jC.length:=by omega
     subst hmm;rw[QA];have hsz:=aio.size;have HM3:=Zh zJ
     cases htw:(jC.any fun x=>x==p) with
     | true =>
      have hw2:wrap64 (((k:Int))-1)=((k-1:Nat):Int):=by unfold wrap64; omega
      have Ua:Hid _:=hown3;clear hw2 hown3;go_wp2;go_roundw
      case rel=>exact⟨k-1,jC,congrArg (Value.int .i64) (show _=((k-1:Nat):Int) by omega),by omega,Ua.o,hok,HM3.o,aio⟩
      case measure=>simp[intOf]; omega
     | false =>
      have Ua:Hid _:=hown3;go_wp2_with (first | (at_builtin; refine wpList_append_own _ rfl _ _ 23 rfl W.heap.size 3 i0 (.int .i64 0) 1 8 Tryz.underlying23 hi hz0 hz1 hz2 rfl (by decide) _ _ _ rfl (hown3.alloc _) (aD W3.heap.size 0) 1 1 [.int .i64 p] rfl rfl ?q1 ?q2 ?q3 ?q4 ?q5 ?_))
      case q1=>
       intro j u hj
       match j,hj with
       | 0,hj => simp at hj; subst hj; simp[Addr.add]
      case q2=>intro u hu; simp at hu; subst hu; rfl
      case q3=>unfold maxLen; omega
      case q4=>omega
      case q5=>simp; omega
      intro v' w1 hown1 hgrow1 _;have A7:∀ g,(Value.slice mU jC.length fH).ownBlock=some g->W.heap.size<=g:=fun g hg=>(ZO Ua.o hg).1
      have hMa:=(aL.alloc HM3.o (.cells #[.int .i64 p] 3)).grown hgrow1 (fun e=>by have:=A7 _ e; omega) (fun a ha e=>by have:=A7 _ e; have:=uB.o a ha; omega);have hKa:Kept (fun b=>b≠mb) W w1:=by
       have h1:Kept (fun b=>b≠mb) W (W3.alloc (.cells #[.int .i64 p] 3)):=aio.trans (Zr _ _);exact((h1.mono (t:=fun b=>b≠mb/\b<W.heap.size) (fun b _ h=>h.1)).trans (ZM hgrow1 (fun r e h=>by have:=A7 r e; have:=h.2; omega))).mono (fun b hb h=>⟨h,hb⟩)
      have R9:Hid _:=hown1;have HMa:=Zh hMa;have HKa:=Zh hKa;clear hown1 hgrow1 hown3 hMa hKa;go_wp2;go_roundw
      case rel=>exact⟨k-1,jC++[p],congrArg (Value.int .i64) (show _=((k-1:Nat):Int) by omega),by rw[Zb,Jd]; omega,by rw[Zb,Qs]; exact R9.o,⟨yA hok.o.1 hp0 hp1,PE hok.o.2 htw⟩,HMa.o,HKa.o⟩
      case measure=>simp[intOf]; omega
  ·have hk0:k=0:=by omega
   subst hk0;go_wp2;go_ret;exact⟨_,xs,rfl,hown,hok.o.1,hok.o.2,by omega,hM,hK⟩
theorem aL.fG{s:Nat->Prop}(h:aL mb lo lc l A)(hk:Kept s A B)(h1:s mb)(h2:∀ a,lo=some a->s a.block):aL mb lo lc l B:=by
 obtain⟨k,hk1,hk2⟩:=h.num;exact⟨⟨k,hk1,ZI hk2 hk h1⟩,ZI h.lst hk h1,(ZQ (a:=(aD mb 1)) (hk.block mb h.lt h1)).trans h.thaw,⟨h.ints.1,h.ints.2.keep fun a ha hlt=>hk.block _ hlt (h2 a ha)⟩,h.off⟩
def caseA(cv:Value)(q:ae)(dv:Value):Array Value:=#[cv,q.src.val,.slice q.bY q.wh.length q.aI,.bool q.group,q.keys.val,q.sums.val,q.aV.val,q.ord.val,dv]
theorem H8(co:Option Addr)(cc:Nat)(ts:List af)(q:ae)(dv:Value)(hdv:∃ a m c,dv=.slice a m c)(w:World)(hx:aZ w co ts)(hc:gI ts=true)(hq:q.src.At w)(h5:q.src.xs.length<=5)(ha:bN q.src.xs ts.length=true) :
  Cb 23 #[.agg (caseA (.slice co ts.length cc) q dv)] w (.int .i64 (aJ ts q.src.xs)):=by
 obtain⟨da,dm,dc,rfl⟩:=hdv;obtain⟨⟨rH,jq,xs⟩,bY,aI,wh,group,keys,sums,aV,ord⟩:=q;unfold ah.At at hq;simp only at h5 ha hq;unfold caseA ah.val;simp only;have HC:=Zh hc;have HA:=Zh ha;have hb:=dn w (.cells #[.slice co ts.length cc,.slice rH xs.length jq,.slice bY wh.length aI,.bool group,.slice keys.ad keys.xs.length keys.cap,.slice sums.ad sums.xs.length sums.cap,.slice aV.ad aV.xs.length aV.cap,.slice ord.ad ord.xs.length ord.cap,.slice da dm dc] 53);have hX:=hx.below hb;have hQ:=Qv hb hq;have c0:(w.alloc (.cells #[.slice co ts.length cc,.slice rH xs.length jq,.slice bY wh.length aI,.bool group,.slice keys.ad keys.xs.length keys.cap,.slice sums.ad sums.xs.length sums.cap,.slice aV.ad aV.xs.length aV.cap,.slice ord.ad ord.xs.length ord.cap,.slice da dm dc] 53)).cell? (aD w.heap.size 0)=some (.slice co ts.length cc):=by simp
 have c1:(w.alloc (.cells #[.slice co ts.length cc,.slice rH xs.length jq,.slice bY wh.length aI,.bool group,.slice keys.ad keys.xs.length keys.cap,.slice sums.ad sums.xs.length sums.cap,.slice aV.ad aV.xs.length aV.cap,.slice ord.ad ord.xs.length ord.cap,.slice da dm dc] 53)).cell? (aD w.heap.size 1)=some (.slice rH xs.length jq):=by simp
 have HB:=Zh hb;clear hc ha hx hq hb;go_enter Tryz.func23,Tryz.ntmps23;go_wp2;obtain⟨w1,hw1⟩:=eX (w.alloc (.cells #[.slice co ts.length cc,.slice rH xs.length jq,.slice bY wh.length aI,.bool group,.slice keys.ad keys.xs.length keys.cap,.slice sums.ad sums.xs.length sums.cap,.slice aV.ad aV.xs.length aV.cap,.slice ord.ad ord.xs.length ord.cap,.slice da dm dc] 53))
 rw[hw1]at HB hX hQ c0 c1;rw[hw1];clear hw1;go_loopw [3,4] (fun n i wr=>∃ k:Nat,k<=xs.length/\i=.int .i64 k/\n=.int .i64 (aJ ts (xs.take k))/\Bw w1 wr) (fun _ i _=>xs.length-(intOf i).toNat)
 case atStart=>exact⟨0,Q8 _,rfl,rfl,Qw _ _⟩
 case round=>
  obtain⟨k,hk,rfl,rfl,hbr⟩:=hrel;have hbd:=tV HC.o HA.o k hk;have d0:=cB hbr c0;have d1:=cB hbr c1;by_cases hlt:k<xs.length
  ·obtain⟨sb,asy,rfl,hs⟩:=hQ.get hlt;have hsk:=cB hbr (hs k hlt);have hr:=mV HA.o hlt;have kS:=qx HC.o (i:=xs[k].toNat) (by omega);obtain⟨b,off,rfl,t0,-⟩:=hX.2 xs[k].toNat (by omega);have hck:=cB hbr t0;have HS:=Zh (kM ts xs k hlt);generalize (ts.getD xs[k].toNat tz).aO=cl at *;generalize aJ ts (xs.take k)=W0 at *;have e1:xs.getD k 0=xs[k]:=by simp[List.getD,hlt]
   rw[e1]at hsk;clear hs t0 hX hQ e1;generalize hxk:xs[k]=xk at *;clear hxk;obtain⟨xn,rfl⟩:∃ xn:Nat,xk=(xn:Int):=⟨xk.toNat,by omega⟩
   simp only[Zj]at hck;have hwr:wrap64 (W0+cl)=W0+cl:=by unfold wrap64; omega
   go_wp2;go_quiet (fail);go_wp2;go_roundw
   case rel=>exact⟨k+1,by omega,by go_num,by rw[HS.o],below_drewN hbr _⟩
   case measure=>simp[intOf]; omega
  ·go_wp2;go_ret;have:k=xs.length:=by omega
   subst this;exact⟨Qh (by rw[QA]),HB.o.trans (hbr.mono HB.o.size)⟩
theorem aaB(h:gI ts=true):1<=ts.length/\ts.length<=8:=by
 unfold gI at h;simp only[Qt,QJ]at h;exact h.1
theorem PG(hc:gI ts=true)(ha:bN xs ts.length=true)(h1:1<=xs.length)(h5:xs.length<=5):1<=aJ ts xs/\aJ ts xs<=20:=by
 have kS:∀ t∈xs,1<=(ts.getD t.toNat tz).aO/\(ts.getD t.toNat tz).aO<=4:=fun t ht=>by
  unfold bN at ha;rw[Qu]at ha;have:=ha t ht;simp only[Qt,QJ]at this;exact qx hc (i:=t.toNat) (by omega)
 have hg:∀ l:List Int,(∀ t∈l,1<=(ts.getD t.toNat tz).aO/\(ts.getD t.toNat tz).aO<=4)->(l.length:Int)<=aJ ts l/\aJ ts l<=4*l.length:=by
  intro l
  induction l with
  | nil => intro _; simp[aJ]
  | cons a l ih =>
   intro h;have h1:=ih (fun t ht=>h t (by simp[ht]));have h2:=h a (by simp);have h3:aJ ts (a::l)=(ts.getD a.toNat tz).aO+aJ ts l:=by simp[aJ]
   rw[h3,Zg];omega
 have:=hg xs kS;omega
def jR:ah:=⟨none,0,[]⟩
def qz:ae:=⟨jR,none,0,[],false,jR,jR,jR,jR⟩
structure fE(mb qb:Nat)(lo:Option Addr)(lc:Nat)(l:List Int)(e tq:TypeId)(W0:World)(c:Value->Array Value)(W:World)(v:Value)(xs:List Int):Prop where
 gb:GB W qb tq (c v)
 own:W.ownsRow W0.heap.size e 1 v xs.length (xs.map (Value.int .i64))
 IQ:aL mb lo lc l W
 kept:Kept (fun b=>b≠mb/\b≠qb) W0 W
theorem fE.keep{mb qb:Nat}{lo:Option Addr}{lc:Nat}{l:List Int}{e tq:TypeId}{W0:World}{c:Value->Array Value}{A B:World}{v:Value}{xs:List Int}(h:fE mb qb lo lc l e tq W0 c A v xs)(hk:Kept (fun b=>b≠mb) A B)(hm:aL mb lo lc l B)
  (hq:qb≠mb) (hmb:mb<W0.heap.size):fE mb qb lo lc l e tq W0 c B v xs:=
 ⟨h.gb.keep hk hq,ZN h.own hk (fun g hg=>by have:=(ZO h.own hg).1; omega),hm,h.kept.trans (hk.mono fun b _ h=>h.1)⟩
theorem fE.more{v':Value}(h:fE mb qb lo lc l e tq W0 c A v xs){f:Nat}
  (ha:Kept (fun _=>True) A A1) (hown:B.ownsRow W0.heap.size e 1 v' (xs.length+1) (xs.map (Value.int .i64)++[.int .i64 p])) (hg:A1.grownBy B v.ownBlock) (hc:(c v).setIfInBounds f v' = c v')
  (hq:qb≠mb) (hmb:mb<W0.heap.size) (hqb:qb<W0.heap.size) (hlo:∀ a,lo=some a->a.block<W0.heap.size/\a.block≠qb) :
  fE mb qb lo lc l e tq W0 c (B.setCell (aD qb f) v') v' (xs++[p]):=by
 have hvb:∀ g,v.ownBlock=some g->W0.heap.size<=g:=fun g hg=>(ZO h.own hg).1
 have JI:∀ g,v'.ownBlock=some g->W0.heap.size<=g:=fun g hg=>(ZO hown hg).1
 have hk1:Kept (fun b=>v.ownBlock≠some b) A B:=(ha.mono fun _ _ _=>trivial).trans (ZM hg (fun r e hr=>hr e));have hk2:Kept (fun b=>v.ownBlock≠some b/\b≠qb) A (B.setCell (aD qb f) v'):=(hk1.mono fun _ _ h=>h.1).trans (ZL _ _ _ (fun h=>h.2 rfl));refine⟨?_,?_,?_,?_⟩
 ·have hgB:=h.gb.keep hk1 (fun e=>by have:=hvb _ e; omega);have:=hgB.set f v'
  rwa [hc]at this
 ·have:=ZN hown (s:=fun b=>b≠qb) (ZL B (aD qb f) v' (fun h=>h rfl)) (fun g hg=>by have:=JI g hg; omega)
  simpa using this
 ·exact h.IQ.fG hk2 ⟨fun e=>by have:=hvb _ e; omega,Ne.symm hq⟩ (fun a ha=>⟨fun e=>by have:=hvb _ e; have:=(hlo a ha).1; omega,(hlo a ha).2⟩)
 ·exact((h.kept.mono (t:=fun b=>(b≠mb/\b≠qb)/\b<W0.heap.size) (fun b _ h=>h.1)).trans (hk2.mono fun b _ h=>⟨fun e=>by have:=hvb _ e; have:=h.2; omega,h.1.2⟩)).mono (fun b hb h=>⟨h,hb⟩)
theorem fE.far(h:fE mb qb lo lc l e tq W0 c A v xs)
  (ha:Kept (fun _=>True) A A1) (hg:A1.grownBy B v.ownBlock):Kept (fun b=>b<W0.heap.size) A B:=
 (ha.mono fun _ _ _=>trivial).trans (ZM hg (fun r e hr=>by have:=(ZO h.own e).1; omega))
theorem aZ.keep{A B:World}{ao:Option Addr}{ts:List af}(h:aZ A ao ts)(hb:∀ a,ao=some a->a.block<A.heap.size->B.heap[a.block]? = A.heap[a.block]?):aZ B ao ts:=by
 refine⟨h.1,fun i hi=>?_⟩;obtain⟨b,off,rfl,h0,h1,h2,h3,h4,h5⟩:=h.2 i hi;have hl:b<A.heap.size:=Zv (p:=(aD b (off+i*6))) h0;have hbk:=hb (aD b off) rfl hl;exact⟨b,off,rfl,(Zw (a:=(aD b (off+i*6))) hbk).trans h0,(Zw (a:=(aD b (off+i*6+1))) hbk).trans h1,(Zw (a:=(aD b (off+i*6+2))) hbk).trans h2,
  (Zw (a:=(aD b (off+i*6+3))) hbk).trans h3,(Zw (a:=(aD b (off+i*6+4))) hbk).trans h4,(Zw (a:=(aD b (off+i*6+5))) hbk).trans h5⟩
theorem bH.keep{A B:World}{ao:Option Addr}{cs:List aC}(h:bH A ao cs)(hb:∀ a,ao=some a->a.block<A.heap.size->B.heap[a.block]? = A.heap[a.block]?):bH B ao cs:=by
 refine⟨h.1,fun i hi=>?_⟩;obtain⟨b,off,rfl,h0,h1,h2,h3,h4⟩:=h.2 i hi;have hl:b<A.heap.size:=Zv (p:=(aD b (off+i*5))) h0;have hbk:=hb (aD b off) rfl hl;exact⟨b,off,rfl,(Zw (a:=(aD b (off+i*5))) hbk).trans h0,(Zw (a:=(aD b (off+i*5+1))) hbk).trans h1,(Zw (a:=(aD b (off+i*5+2))) hbk).trans h2,
  (Zw (a:=(aD b (off+i*5+3))) hbk).trans h3,(Zw (a:=(aD b (off+i*5+4))) hbk).trans h4⟩
def jr(n:Nat)(x:ah)(S:World):Prop:=bK.At x S/\(∀ b,bK.blk x=some b->n<=b)/\x.xs.length<=x.cap
theorem jr.keep{n:Nat}{x:ah}{A B:World}{s:Nat->Prop}(h:jr n x A)(hk:Kept s A B)(hs:∀ b,n<=b->s b):jr n x B:=
 ⟨bK.keep h.1 hk.size (fun b hb hx=>hk.block b hb (hs b (h.2.1 b hx))),h.2.1,h.2.2⟩
theorem jr.nil(n:Nat)(S:World):jr n jR S:=
 ⟨⟨⟨by simp[jR],fun i hi=>absurd hi (by simp[jR])⟩,(fun a ha=>by cases ha),fun _=>rfl⟩,(fun b hb=>by cases hb),by simp[jR]⟩
theorem jo{w:World}{base:Nat}(h:w.ownsRow base e 1 v k (xs.map (Value.int .i64)))(hl:xs.length<=1000)(hb:n<=base):∃ iv:ah,v=iv.val/\iv.xs=xs/\jr n iv w:=by
 obtain⟨iv,hv,hx,hat,hbb⟩:=kW h (by omega);refine⟨iv,hv,hx,hat,fun b hb'=>Zl hb (hbb b hb'),?_⟩;have hn:xs.length=k:=by have:=h.1; simpa using this
 rcases h.2 with⟨hv',h0⟩ | ⟨g,cap,cur,hv',_,_,hc,_⟩
 ·rw[hx]; omega
 ·rw[hv]at hv';unfold ah.val at hv';injection hv' with h1 h2 h3;omega
def yB(n:Nat)(ad:Option Addr)(ls:List aH)(S:World):Prop:=
 gH S ad ls/\(∀ a,ad=some a->n<=a.block)/\∀ i,i<ls.length->∀ a,(ls.getD i lz).ad=some a->n<=a.block
theorem yB.keep{n:Nat}{ad:Option Addr}{ls:List aH}{A B:World}{s:Nat->Prop}(h:yB n ad ls A)(hk:Kept s A B)(hs:∀ b,n<=b->s b):yB n ad ls B:=
 ⟨⟨h.1.1,h.1.2.1.keep fun a ha hlt=>hk.block _ hlt (hs _ (h.2.1 a ha)),fun i hi=>(h.1.2.2 i hi).keep fun a ha hlt=>hk.block _ hlt (hs _ (h.2.2 i hi a ha))⟩,h.2.1,h.2.2⟩
structure dL(n:Nat)(q:ae)(S:World):Prop where
 src:jr n q.src S
 wh:yB n q.bY q.wh S
 keys:jr n q.keys S
 sums:jr n q.sums S
 aV:jr n q.aV S
 ord:jr n q.ord S
 nil:q.bY=none->q.aI=0
theorem dL.keep{n:Nat}{q:ae}{A B:World}{s:Nat->Prop}(h:dL n q A)(hk:Kept s A B)(hs:∀ b,n<=b->s b):dL n q B:=
 ⟨h.src.keep hk hs,h.wh.keep hk hs,h.keys.keep hk hs,h.sums.keep hk hs,h.aV.keep hk hs,h.ord.keep hk hs,h.nil⟩
theorem jr.lower{m:Nat}{x:ah}(h:jr n x S)(hm:m<=n):jr m x S:=⟨h.1,fun b hb=>Zl hm (h.2.1 b hb),h.2.2⟩
theorem dL.lower{n m:Nat}{q:ae}{S:World}(h:dL n q S)(hm:m<=n):dL m q S:=
 ⟨h.src.lower hm,⟨h.wh.1,fun a ha=>Zl hm (h.wh.2.1 a ha),fun i hi a ha=>Zl hm (h.wh.2.2 i hi a ha)⟩,h.keys.lower hm,h.sums.lower hm,h.aV.lower hm,h.ord.lower hm,h.nil⟩
theorem dL.at'{q:ae}(h:dL n q S):q.At S:=⟨h.src.1.1,h.wh.1,h.keys.1.1,h.sums.1.1,h.aV.1.1,h.ord.1.1⟩
def Je:=@dL.keep
