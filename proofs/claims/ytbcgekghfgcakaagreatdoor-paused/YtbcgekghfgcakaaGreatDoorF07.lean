import Derived.Test.YtbcgekghfgcakaaGreatDoorF05
set_option linter.all false
set_option maxRecDepth 100000
set_option maxHeartbeats 16000000
namespace Go.Proofs.Zz
open Go.RowKit Go.Shelf
def kJ (c n:Int):Int:=Int.tmod (if c<0 then -(c+1) else c) n
theorem mP {c n:Int} (hn:0<n):0<=kJ c n/\kJ c n<n:=by
 unfold kJ;have h:0<=(if c<0 then -(c+1) else c):=by split <;> omega
 exact⟨Int.tmod_nonneg _ h,Int.tmod_lt_of_pos _ hn⟩
theorem fE {A B:World} {p:Addr} {v:Value} (h:A.cell? p=some v) (hk:Kept (fun _=>True) A B):B.cell? p=some v:=
 (Zg (hk.block _ (Zf h) trivial)).trans h
theorem zO {A B:World} {p:Addr} {v:Value} {n:Nat} (h:A.cell? p=some v) (hk:Kept (fun b=>b≠n) A B) (hp:p.block≠n):B.cell? p=some v:=
 (Zg (hk.block _ (Zf h) hp)).trans h
structure aF (mb:Nat) (lo:Option Addr) (lc:Nat) (l:List Int) (W:World):Prop where
 num:∃ k:Nat,k<=l.length/\W.cell? (aD mb 1)=some (.int .i64 k)
 lst:W.cell? (aD mb 0)=some (.slice lo l.length lc)
 thaw:W.frozen? (aD mb 1)=false
 ints:au W lo l
 off:∀ a,lo=some a->a.block≠mb
theorem aF.keep {mb:Nat} {lo:Option Addr} {lc:Nat} {l:List Int} {A B:World} (h:aF mb lo lc l A) (hk:Kept (fun _=>True) A B):aF mb lo lc l B:=by
 obtain⟨k,hk1,hk2⟩:=h.num;exact⟨⟨k,hk1,fE hk2 hk⟩,fE h.lst hk,(ZB (a:=(aD mb 1)) (hk.block mb (Zf (p:=(aD mb 0)) h.lst) trivial)).trans h.thaw,⟨h.ints.1,h.ints.2.keep fun a ha hlt=>hk.block _ hlt trivial⟩,h.off⟩
theorem aF.more {mb:Nat} {lo:Option Addr} {lc:Nat} {l:List Int} {A:World} (h:aF mb lo lc l A) {k:Nat} (hk:k<=l.length):aF mb lo lc l (A.setCell (aD mb 1) (.int .i64 k)):=by
 obtain⟨k0,_,hk2⟩:=h.num;have hkk:Kept (fun b=>b≠mb) A (A.setCell (aD mb 1) (.int .i64 k)):=⟨rfl,rfl,rfl,by simp[World.setCell],fun b _ hb=>Below.heap_setCell A _ _ b hb⟩
 refine⟨⟨k,hk,World.cell?_setCell_same' _ _ _ (by rw[hk2]; rfl)⟩,?_,by rw[World.frozen?_setCell]; exact h.thaw,⟨h.ints.1,h.ints.2.keep fun a ha hlt=>hkk.block _ hlt (h.off a ha)⟩,h.off⟩;exact (World.cell?_setCell_other A (aD mb 1) (aD mb 0) (.int .i64 k) (fun e=>by cases e)).trans h.lst
theorem rR (c n:Int) (w:World) (hn:0<n) (hc:-9223372036854775808<=c/\c<=9223372036854775807) :
  Calls Tryz.prog 7 #[.int .i64 c,.int .i64 n] w fun e w'=>e=.returned (.int .i64 (kJ c n))/\w' = w:=by
 have hn0:¬ n=0:=by omega
 by_cases h0:c<0
 ·have hw1:wrap64 (c+1)=c+1:=by unfold wrap64; omega
  have hw2:wrap64 (-(c+1)) = -(c+1):=by unfold wrap64; omega
  have hR:kJ c n = -((c+1).tmod n):=by unfold kJ; rw[Qr h0,Int.neg_tmod]
  rw[hR];clear hR;go_enter Tryz.func7,Tryz.ntmps7;go_wp2;go_ret;exact⟨rfl,rfl⟩
 ·have hR:kJ c n=c % n:=by unfold kJ; rw[Qs h0,Xg (by omega)]
  rw[hR];clear hR;go_enter Tryz.func7,Tryz.ntmps7;go_wp2;go_ret;exact⟨rfl,rfl⟩
theorem UE (mb:Nat) (lo:Option Addr) (lc:Nat) (l:List Int) (n:Int) (W:World) (hm:aF mb lo lc l W) (hn:0<n) (hl:∀ x∈l,-9223372036854775808<=x/\x<=9223372036854775807) :
  Calls Tryz.prog 14 #[.pointer (some (aD mb 0)),.int .i64 n] W fun e W'=>∃ k:Int,e=.returned (.int .i64 k)/\0<=k/\k<n/\aF mb lo lc l W'/\Kept (fun b=>b≠mb) W W':=by
 obtain⟨k,hk,hck⟩:=hm.num;have hcl:=hm.lst;have hth:=hm.thaw;have hlen:=hm.ints.1;have HM:=Zh hm;have HL:=Zh hl;clear hm hl;by_cases hlt:k<l.length
 ·have hge:¬ (k:Int) ≥ (l.length:Int):=by omega
  obtain⟨b,off,rfl,hcs⟩:=HM.out.ints.get hlt;have hcx:=hcs k hlt;have hxr:=HL.out l[k] (Qj hlt);have e1:l.getD k 0=l[k]:=by simp[List.getD,hlt]
  rw[e1] at hcx;generalize l[k]=x at *;have hbm:b≠mb:=HM.out.off _ rfl;clear hcs e1;go_enter Tryz.func14,Tryz.ntmps14;go_wp2;go_quiet (fail);go_wp2;have hM1:=aF.more (aF.keep HM.out (ZK W nq)) (k:=k+1) (by omega);have hk1:Kept (fun b=>b≠mb) W ((W.drewN nq).setCell (aD mb 1) (.int .i64 ((k+1:Nat):Int))):=(ZK W nq).trans ⟨rfl,rfl,rfl,by simp[World.setCell],fun b _ hb=>Below.heap_setCell _ _ _ b hb⟩;have amO:=zO hcx hk1 hbm;obtain⟨W2,hW2⟩:∃ W2,(W.drewN nq).setCell (aD mb 1) (.int .i64 ((k+1:Nat):Int))=W2:=⟨_,rfl⟩
  have hW3:(W.drewN nq).setCell (aD mb 1) (.int .i64 ((k:Int)+1))=W2:=hW2;rw[hW2] at hM1 hk1 amO;rw[hW3];obtain⟨k2,_,ahp⟩:=hM1.num;have hk2:W2.cell? (aD mb 1)=some (.int .i64 ((k:Int)+1)):=by
   rw[<- hW2];exact World.cell?_setCell_same' _ _ _ (by rw[fE hck (ZK W nq)]; rfl)
  have Ll:=hM1.lst;have HM1:=Zh hM1;have lK:=Zh hk1;clear hM1 hk1 hW2 hW3 ahp hck hcl hcx HM;have hpk:=fun W=>rR x n W hn hxr
  go_quiet ((go_at_call 7; exact Calls.quiet_of_same (hpk _)));go_wp2;go_ret;have hr:=mP (c:=x) hn;exact⟨_,rfl,hr.1,hr.2,aF.keep HM1.out (ZK _ _),lK.out.trans (ZK _ _)⟩
 ·have hge:(k:Int) ≥ (l.length:Int):=by omega
  go_enter Tryz.func14,Tryz.ntmps14;go_wp2;go_quiet (fail);go_wp2;go_ret;exact⟨0,rfl,by omega,hn,aF.keep HM.out (ZK _ _),ZK _ _⟩
def Xf:=@zO
def Xh:=@UE
def Em:Array Value:=#[.int .i64 0,.int .i64 1,.int .i64 7,.int .i64 20,.int .i64 100,.int .i64 5000,.int .i64 1000000]
def yg:Array Value:=#[.int .i64 1,.int .i64 2,.int .i64 5,.int .i64 10,.int .i64 1000000]
theorem aac {r:Nat} (h:r<7):∃ x:Int,Em[r]? = some (.int .i64 x)/\0<=x/\x<=1000000:=by
 match r,h with
 | 0,_ => exact⟨0,rfl,by omega,by omega⟩
 | 1,_ => exact⟨1,rfl,by omega,by omega⟩
 | 2,_ => exact⟨7,rfl,by omega,by omega⟩
 | 3,_ => exact⟨20,rfl,by omega,by omega⟩
 | 4,_ => exact⟨100,rfl,by omega,by omega⟩
 | 5,_ => exact⟨5000,rfl,by omega,by omega⟩
 | 6,_ => exact⟨1000000,rfl,by omega,by omega⟩
theorem UF {r:Nat} (h:r<5):∃ x:Int,yg[r]? = some (.int .i64 x)/\1<=x/\x<=1000000:=by
 match r,h with
 | 0,_ => exact⟨1,rfl,by omega,by omega⟩
 | 1,_ => exact⟨2,rfl,by omega,by omega⟩
 | 2,_ => exact⟨5,rfl,by omega,by omega⟩
 | 3,_ => exact⟨10,rfl,by omega,by omega⟩
 | 4,_ => exact⟨1000000,rfl,by omega,by omega⟩
theorem aF.lt {mb:Nat} {lo:Option Addr} {lc:Nat} {l:List Int} {A:World} (h:aF mb lo lc l A):mb<A.heap.size:=Zf (p:=(aD mb 0)) h.lst
theorem aF.alloc {mb:Nat} {lo:Option Addr} {lc:Nat} {l:List Int} {A:World} (h:aF mb lo lc l A) (o:Obj):aF mb lo lc l (A.alloc o):=h.keep (Zc _ _)
theorem aF.set {mb:Nat} {lo:Option Addr} {lc:Nat} {l:List Int} {A:World} (h:aF mb lo lc l A) {G i:Nat} (v:Value) (h1:G≠mb) (h2:∀ a,lo=some a->a.block≠G):aF mb lo lc l (A.setCell (aD G i) v):=by
 have hk:Kept (fun b=>b≠G) A (A.setCell (aD G i) v):=Zv _ _ _ (fun h=>h rfl);obtain⟨k,hk1,hk2⟩:=h.num;exact⟨⟨k,hk1,Xf hk2 hk (Ne.symm h1)⟩,Xf h.lst hk (Ne.symm h1),(ZB (a:=(aD mb 1)) (hk.block mb h.lt (Ne.symm h1))).trans h.thaw,⟨h.ints.1,h.ints.2.keep fun a ha hlt=>hk.block _ hlt (h2 a ha)⟩,h.off⟩
structure qy (t:af) (k:Nat):Prop where
 c1:1<=t.aH
 c3:t.aH<=3
 r0:0<=t.rows
 r1:t.rows<=1000000
 kd:∀ m,m<k->1<=t.kd m/\t.kd m<=1000000
 kz:(k<=0->t.k0=0)/\(k<=1->t.k1=0)/\(k<=2->t.k2=0)/\t.k3=0
theorem PX (mb:Nat) (lo:Option Addr) (lc:Nat) (l:List Int) (W:World) (hm:aF mb lo lc l W) (hl:∀ x∈l,-9223372036854775808<=x/\x<=9223372036854775807) (hlo:∀ a,lo=some a->a.block<W.heap.size) :
  Calls Tryz.prog 15 #[.pointer (some (aD mb 0))] W fun e W'=>∃ t:af,e=.returned (.agg t.vals)/\qy t t.aH.toNat/\aF mb lo lc l W'/\Kept (fun b=>b≠mb) W W':=by
 have hmb:=hm.lt;have hM1:=hm.alloc (.cells tz.vals 54);have hG1:=GB.alloc W tz.vals 54;have hk1:Kept (fun b=>b≠mb) W (W.alloc (.cells tz.vals 54)):=Zc _ _;obtain⟨W1,hW1⟩:∃ W1,W.alloc (.cells tz.vals 54)=W1:=⟨_,rfl⟩
 rw[hW1] at hM1 hG1 hk1;have hs1:W1.heap.size=W.heap.size+1:=by rw[<- hW1]; simp
 have hn1:=Xh mb lo lc l 3 W1 hM1 (by omega) hl;have hW1':W.alloc (.cells #[.int .i64 0,.int .i64 0,.int .i64 0,.int .i64 0,.int .i64 0,.int .i64 0] 54)=W1:=hW1;have HL:=Zh hl;have uJ:=Zh hlo;clear hl hlo hM1 hm hW1;have nR:=Zh hs1;clear hs1;go_enter Tryz.func15,Tryz.ntmps15;go_wp2_with fail;refine hn1.mono ?_;rintro e W2 ⟨r1,rfl,hr1,hr1',hM2,hk2⟩;clear hW1' hn1;have G9:=hk1.trans hk2;have hra:W.heap.size≠mb:=by omega
 have hG2:=hG1.keep hk2 hra;have hw1:wrap64 (1+r1)=1+r1:=by unfold wrap64; omega
 have hs2:=hk2.size;have wY:=(hM2.alloc (.cells #[.int .i64 (1+r1),.int .i64 0,.int .i64 0,.int .i64 0,.int .i64 0,.int .i64 0] 54)).alloc (.cells Em 3);have hn2:=Xh mb lo lc l 7 _ wY (by omega) HL.out;have hG3:GB ((W2.alloc (.cells #[.int .i64 (1+r1),.int .i64 0,.int .i64 0,.int .i64 0,.int .i64 0,.int .i64 0] 54)).alloc (.cells Em 3)) W2.heap.size 54 #[.int .i64 (1+r1),.int .i64 0,.int .i64 0,.int .i64 0,.int .i64 0,.int .i64 0]:=
  (GB.alloc _ _ _).keep (Zc (s:=fun _=>True) _ _) trivial
 have adF:GB ((W2.alloc (.cells #[.int .i64 (1+r1),.int .i64 0,.int .i64 0,.int .i64 0,.int .i64 0,.int .i64 0] 54)).alloc (.cells Em 3)) (W2.heap.size+1) 3 Em:=by
  have:=GB.alloc (W2.alloc (.cells #[.int .i64 (1+r1),.int .i64 0,.int .i64 0,.int .i64 0,.int .i64 0,.int .i64 0] 54)) Em 3
  rwa [Zd] at this
 have hk3:∀ s,Kept s W2 ((W2.alloc (.cells #[.int .i64 (1+r1),.int .i64 0,.int .i64 0,.int .i64 0,.int .i64 0,.int .i64 0] 54)).alloc (.cells Em 3)):=fun s=>(Zc _ _).trans (Zc _ _)
 have adG:=hG2.keep (hk3 (fun _=>True)) trivial;have atY:=hM2.lt;obtain⟨W3,hW3⟩:∃ W3,(W2.alloc (.cells #[.int .i64 (1+r1),.int .i64 0,.int .i64 0,.int .i64 0,.int .i64 0,.int .i64 0] 54)).alloc (.cells Em 3)=W3:=⟨_,rfl⟩
 rw[hW3] at hn2 hG3 adF adG hk3;unfold Em at hW3;clear hM2 wY hG1 hG2 hk1;go_wp2_with fail;refine hn2.mono ?_;rintro e W4 ⟨r2,rfl,hr2,hr2',TV,hk4⟩;clear hW3 hn2;obtain⟨rn,rfl⟩:∃ rn:Nat,r2=(rn:Int):=⟨r2.toNat,by omega⟩
 have hrn:rn<7:=by omega
 have htb:W2.heap.size≠mb:=by omega
 have hG4:=hG3.keep hk4 htb;have ahy:=adF.keep hk4 (show W2.heap.size+1≠mb by omega);have wZ:=adG.keep hk4 hra;have UG:=(G9.trans (hk3 _)).trans hk4;obtain⟨x,hx,hx0,hx1⟩:=aac hrn;have hcx:=(ahy.cell rn).trans hx;have hct:=hG4.cell 1;have hcf:=hG4.frozen 1;simp only[List.getElem?_toArray,List.getElem?_cons_succ,List.getElem?_cons_zero] at hct;have hG5:GB (W4.setCell (aD W2.heap.size 1) (.int .i64 x)) W2.heap.size 54 (⟨1+r1,x,0,0,0,0⟩:af).vals:=hG4.set 1 _;have xe:=TV.set (i:=1) (.int .i64 x) htb (fun a ha=>by have:=uJ.out a ha; have:=G9.size; omega);have hk5:Kept (fun b=>b≠mb) W (W4.setCell (aD W2.heap.size 1) (.int .i64 x)):=UG.bL G9.size _;have tQ:GB (W4.setCell (aD W2.heap.size 1) (.int .i64 x)) W.heap.size 54 tz.vals:=wZ.keep (s:=fun b=>b≠W2.heap.size) (Zv _ _ _ (fun h=>h rfl)) (by have:=nR.out; omega);have Lm:Hid _:=hG5;have PY:=Zh xe;have HK5:=Zh hk5;have kP:Hid _:=tQ;have Lp:=Zh G9;clear hG5 xe hk5 tQ G9 UG ahy wZ adG hG3 adF TV hk4 hk3 hk2;go_wp2;go_loopw [4] (fun i wr=>∃ (k:Nat) (t:af),i=.int .i64 k/\(k:Int)<=t.aH/\qy t k/\GB wr W2.heap.size 54 t.vals/\GB wr W.heap.size 54 tz.vals/\aF mb lo lc l wr/\Kept (fun b=>b≠mb) W wr) (fun i wr=>10-(intOf i).toNat)
 case atStart=>exact⟨0,⟨1+r1,x,0,0,0,0⟩,rfl,by show (0:Int)<=1+r1; omega,⟨by show 1<=1+r1; omega,by show 1+r1<=3; omega,hx0,hx1,fun m h=>by omega,fun _=>rfl,fun _=>rfl,fun _=>rfl,rfl⟩,Lm.out,kP.out,PY.out,HK5.out⟩
 case round=>
  obtain⟨k,⟨aH,rows,k0,k1,k2,k3⟩,rfl,hkc,hT,YG,wZ,UH,hKr⟩:=hrel;have c0:=YG.cell 0;have hcz:(⟨aH,rows,k0,k1,k2,k3⟩:af).vals[0]? = some (.int .i64 aH):=rfl;rw[hcz] at c0;simp only at hkc;have hc3:=hT.c3;simp only at hc3;clear hcz hG4 hct hcf hcx;by_cases hlt:(k:Int)<aH
  ·have hkk:k=0∨k=1∨k=2:=by omega
   have zP:=UH.alloc (.cells yg 3);have TW:=Xh mb lo lc l 5 _ zP (by omega) HL.out;have hG6:=YG.keep (Zc (s:=fun _=>True) wr (.cells yg 3)) trivial;have adH:=GB.alloc wr yg 3;have adI:=wZ.keep (Zc (s:=fun _=>True) wr (.cells yg 3)) trivial;have mQ:=hKr.trans (Zc (s:=fun b=>b≠mb) wr (.cells yg 3));have hmr:=UH.lt;obtain⟨W6,hW6⟩:∃ W6,wr.alloc (.cells yg 3)=W6:=⟨_,rfl⟩
   rw[hW6] at TW hG6 adH adI mQ;unfold yg at hW6;clear zP;go_wp2_with fail;refine TW.mono ?_;rintro e W7 ⟨r3,rfl,hr3,adJ,Ha,jL⟩;clear hW6 TW UH;obtain⟨rn3,rfl⟩:∃ rn:Nat,r3=(rn:Int):=⟨r3.toNat,by omega⟩
   have amS:rn3<5:=by omega
   obtain⟨y,hy,hy0,hy1⟩:=UF amS;have hG7:=hG6.keep jL htb;have hcy:=((adH.keep jL (show wr.heap.size≠mb by omega)).cell rn3).trans hy;have ahz:=adI.keep jL hra;have ahA:=mQ.trans jL;have d0:=hG7.cell 2;have d1:=hG7.cell 3;have d2:=hG7.cell 4;have e0:=hG7.frozen 2;have e1:=hG7.frozen 3;have e2:=hG7.frozen 4;have PZ:=fun i=>Ha.set (G:=W2.heap.size) (i:=i) (.int .i64 y) htb (fun a ha=>by have:=uJ.out a ha; have:=Lp.out.size; omega)
   have Og:=fun i=>ahA.bL (G:=W2.heap.size) (i:=i) Lp.out.size (.int .i64 y)
   have ahB:=fun i=>ahz.keep (s:=fun b=>b≠W2.heap.size) (Zv W7 (aD W2.heap.size i) (.int .i64 y) (fun h=>h rfl)) (by have:=nR.out; omega)
   have hG8:=fun i=>hG7.set i (.int .i64 y)
   have f0:(⟨aH,rows,k0,k1,k2,k3⟩:af).vals[2]? = some (.int .i64 k0):=rfl;have f1:(⟨aH,rows,k0,k1,k2,k3⟩:af).vals[3]? = some (.int .i64 k1):=rfl;have f2:(⟨aH,rows,k0,k1,k2,k3⟩:af).vals[4]? = some (.int .i64 k2):=rfl;rw[f0] at d0;rw[f1] at d1;rw[f2] at d2;have HG8:=Zh hG8;have adK:=Zh ahB;have HM8:=Zh PZ;have UI:=Zh Og;have HT:=Zh hT;clear hG8 ahB PZ Og hT f0 f1 f2 hG7 ahz ahA Ha jL mQ hG6 adH adI YG wZ hKr c0;rcases hkk with rfl | rfl | rfl
   ·go_wp2;go_roundw
    case rel=>exact⟨1,⟨aH,rows,y,k1,k2,k3⟩,rfl,by show (1:Int)<=aH; omega,⟨HT.out.c1,HT.out.c3,HT.out.r0,HT.out.r1,fun m hm=>by match m,hm with | 0,_=>exact⟨hy0,hy1⟩,fun h=>by omega,fun _=>HT.out.kz.2.1 (by omega),fun _=>HT.out.kz.2.2.1 (by omega),HT.out.kz.2.2.2⟩,HG8.out 2,adK.out 2,HM8.out 2,UI.out 2⟩
    case measure=>simp[intOf]
   ·go_wp2;go_roundw
    case rel=>exact⟨2,⟨aH,rows,k0,y,k2,k3⟩,rfl,by show (2:Int)<=aH; omega,⟨HT.out.c1,HT.out.c3,HT.out.r0,HT.out.r1,fun m hm=>by
     match m,hm with
     | 0,_ => exact HT.out.kd 0 (by omega)
     | 1,_ => exact⟨hy0,hy1⟩,fun h => by omega,fun h => by omega,fun _ => HT.out.kz.2.2.1 (by omega),HT.out.kz.2.2.2⟩,HG8.out 3,adK.out 3,HM8.out 3,UI.out 3⟩
    case measure=>simp[intOf]
   ·go_wp2;go_roundw
    case rel=>exact⟨3,⟨aH,rows,k0,k1,y,k3⟩,rfl,by show (3:Int)<=aH; omega,⟨HT.out.c1,HT.out.c3,HT.out.r0,HT.out.r1,fun m hm=>by
     match m,hm with
     | 0,_ => exact HT.out.kd 0 (by omega)
     | 1,_ => exact HT.out.kd 1 (by omega)
     | 2,_ => exact⟨hy0,hy1⟩,fun h => by omega,fun h => by omega,fun h => by omega,HT.out.kz.2.2.2⟩,HG8.out 4,adK.out 4,HM8.out 4,UI.out 4⟩
    case measure=>simp[intOf]
  ·have hce:aH=(k:Int):=by omega
   have g0:=YG.cell 0;have g1:=YG.cell 1;have g2:=YG.cell 2;have g3:=YG.cell 3;have g4:=YG.cell 4;have g5:=YG.cell 5;have r0:=wZ.cell 0;have r1c:=wZ.cell 1;have r2c:=wZ.cell 2;have r3c:=wZ.cell 3;have r4c:=wZ.cell 4;have r5c:=wZ.cell 5;have z0:=wZ.frozen 0;have z1:=wZ.frozen 1;have z2:=wZ.frozen 2;have z3:=wZ.frozen 3;have z4:=wZ.frozen 4;have z5:=wZ.frozen 5;simp only[af.vals,tz,List.getElem?_toArray,List.getElem?_cons_succ,List.getElem?_cons_zero] at g0 g1 g2 g3 g4 g5 r0 r1c r2c r3c r4c r5c;have HT:=Zh hT;have HMr:=Zh UH;have HKr:=Zh hKr;have HCE:=Zh hce;have HGr:Hid _:=wZ;clear YG wZ hT UH hKr hce c0;have hGf:GB ((((((wr.setCell (aD W.heap.size 0) (.int .i64 aH)).setCell (aD W.heap.size 1) (.int .i64 rows)).setCell (aD W.heap.size 2) (.int .i64 k0)).setCell (aD W.heap.size 3) (.int .i64 k1)).setCell (aD W.heap.size 4) (.int .i64 k2)).setCell (aD W.heap.size 5) (.int .i64 k3)) W.heap.size 54 (⟨aH,rows,k0,k1,k2,k3⟩:af).vals:=
    (((((GB.set HGr.out 0 _).set 1 _).set 2 _).set 3 _).set 4 _).set 5 _
   have HGf:Hid _:=hGf;clear hGf;go_wp2;refine Xi (Xj rfl _ _ W.heap.size 54 (⟨aH,rows,k0,k1,k2,k3⟩:af).vals (0,0) _ rfl HGf.out Tryz.underlying54 rfl (by kernel_rfl)) rfl ?_;have P5:∀ a,lo=some a->a.block≠W.heap.size:=fun a ha=>by have:=uJ.out a ha; omega
   refine⟨⟨aH,rows,k0,k1,k2,k3⟩,rfl,?_,?_,?_⟩
   ·have:aH.toNat=k:=by have:=HCE.out; omega
    show qy _ aH.toNat
    rw[this];exact HT.out
   ·exact (((((aF.set HMr.out _ hra P5).set _ hra P5).set _ hra P5).set _ hra P5).set _ hra P5).set _ hra P5
   ·exact (((((Kept.bL HKr.out (Qq _) _).bL (Qq _) _).bL (Qq _) _).bL (Qq _) _).bL (Qq _) _).bL (Qq _) _
def aj.arr (c:aj):Array Value:=#[.bool c.not,.int .i64 c.op,.int .i64 c.left,.bool c.const,.int .i64 c.right]
structure amV (W:World) (G:Nat) (c:aj):Prop where
 c0:W.cell? (aD G 0)=some (.bool c.not)
 c1:W.cell? (aD G 1)=some (.int .i64 c.op)
 c2:W.cell? (aD G 2)=some (.int .i64 c.left)
 c3:W.cell? (aD G 3)=some (.bool c.const)
 c4:W.cell? (aD G 4)=some (.int .i64 c.right)
 f0:W.frozen? (aD G 0)=false
 f1:W.frozen? (aD G 1)=false
 f2:W.frozen? (aD G 2)=false
 f3:W.frozen? (aD G 3)=false
 f4:W.frozen? (aD G 4)=false
theorem GB.five {W:World} {G:Nat} {t:TypeId} {c:aj} (h:GB W G t c.arr):amV W G c:=
 ⟨h.cell 0,h.cell 1,h.cell 2,h.cell 3,h.cell 4,h.frozen 0,h.frozen 1,h.frozen 2,h.frozen 3,h.frozen 4⟩
theorem P6 (mb:Nat) (lo:Option Addr) (lc:Nat) (l:List Int) (W:World) (hm:aF mb lo lc l W) (hl:∀ x∈l,-9223372036854775808<=x/\x<=9223372036854775807) :
  Calls Tryz.prog 17 #[.pointer (some (aD mb 0))] W fun e W'=>∃ v:Int,e=.returned (.int .i64 v)/\(v=1073741824∨(-1<=v/\v<=3))/\aF mb lo lc l W'/\Kept (fun b=>b≠mb) W W':=by
 have hn1:=Xh mb lo lc l 6 W hm (by omega) hl;go_enter Tryz.func17,Tryz.ntmps17;go_wp2_with fail;refine hn1.mono ?_;rintro e W2 ⟨r1,rfl,hr1,hr1',hM2,hk2⟩;clear hn1;by_cases h5:r1=5
 ·have h5':(r1==5)=true:=by simpa using h5
  clear h5;go_wp2;go_ret;exact⟨_,rfl,.inl rfl,hM2,hk2⟩
 ·have h5':(r1==5)=false:=by simpa using h5
  have hw:wrap64 (r1-1)=r1-1:=by unfold wrap64; omega
  have HR:Hid (-1<=r1-1/\r1-1<=3):=show _/\_ by omega
  clear h5;go_wp2;go_ret;exact⟨_,rfl,.inr HR.out,hM2,hk2⟩
theorem Hd (mb:Nat) (lo:Option Addr) (lc:Nat) (l:List Int) (n:Int) (W:World) (hm:aF mb lo lc l W) (hl:∀ x∈l,-9223372036854775808<=x/\x<=9223372036854775807) (hlo:∀ a,lo=some a->a.block<W.heap.size) (hn:0<n) :
  Calls Tryz.prog 30 #[.pointer (some (aD mb 0)),.int .i64 n] W fun e W'=>∃ c:aj,e=.returned (.agg c.arr)/\dO c n=true/\aF mb lo lc l W'/\Kept (fun b=>b≠mb) W W':=by
 have hmb:=hm.lt;have hM1:=hm.alloc (.cells cz.arr 73);have hG1:=GB.alloc W cz.arr 73;have hk1:Kept (fun b=>b≠mb) W (W.alloc (.cells cz.arr 73)):=Zc _ _;obtain⟨W1,hW1⟩:∃ W1,W.alloc (.cells cz.arr 73)=W1:=⟨_,rfl⟩
 rw[hW1] at hM1 hG1 hk1;have nR:Hid (W1.heap.size=W.heap.size+1):=show _=_ by rw[<- hW1]; simp
 have hn1:=Xh mb lo lc l 5 W1 hM1 (by omega) hl;have hW1':W.alloc (.cells #[.bool false,.int .i64 0,.int .i64 0,.bool false,.int .i64 0] 73)=W1:=hW1;have HL:=Zh hl;have uJ:=Zh hlo;have hra:W.heap.size≠mb:=by omega
 clear hl hlo hM1 hm hW1;go_enter Tryz.func30,Tryz.ntmps30;go_wp2_with fail;refine hn1.mono ?_;rintro e W2 ⟨r1,rfl,hr1,hr1',hM2,hk2⟩;clear hW1' hn1;have hn2:=Xh mb lo lc l n W2 hM2 hn HL.out;obtain⟨nt,hnt⟩:∃ nt,(r1==1)=nt:=⟨_,rfl⟩
 go_wp2_with fail;refine hn2.mono ?_;rintro e W3 ⟨lf,rfl,hlf,aua,wY,hk3⟩;clear hn2;have hs2:=hk2.size;have hs3:=hk3.size;have BN:=(hk1.trans hk2).trans hk3;have UJ:=(hG1.keep hk2 hra).keep hk3 hra;have TV:=wY.alloc (.cells (⟨nt,0,lf,false,0⟩:aj).arr 73);have adL:=GB.alloc W3 (⟨nt,0,lf,false,0⟩:aj).arr 73;have P7:=UJ.keep (Zc (s:=fun _=>True) W3 (.cells (⟨nt,0,lf,false,0⟩:aj).arr 73)) trivial;have hk4:=BN.trans (Zc (s:=fun b=>b≠mb) W3 (.cells (⟨nt,0,lf,false,0⟩:aj).arr 73));obtain⟨W4,hW4⟩:∃ W4,W3.alloc (.cells (⟨nt,0,lf,false,0⟩:aj).arr 73)=W4:=⟨_,rfl⟩
 rw[hW4] at TV adL P7 hk4;have TW:=Xh mb lo lc l 6 W4 TV (by omega) HL.out;have ahD:W3.alloc (.cells #[.bool nt,.int .i64 0,.int .i64 lf,.bool false,.int .i64 0] 73)=W4:=hW4;have hcb:W3.heap.size≠mb:=by have:=wY.lt; omega
 have uK:Hid (W.heap.size<=W3.heap.size/\W.heap.size≠W3.heap.size):=show _/\_ by have:=nR.out; omega
 clear TV wY hM2 UJ BN hG1 hk1 hk2 hk3 hW4 hs2 hs3;have HW4:=Zh ahD;clear ahD;go_wp2_with fail;rw[HW4.out];refine TW.mono ?_;rintro e W5 ⟨r3,rfl,hr3,adJ,xe,hk5⟩;clear HW4 TW;have qf:=adL.keep hk5 hcb;have tQ:=P7.keep hk5 hra;have yP:=hk4.trans hk5;have hlo3:∀ a,lo=some a->a.block≠W3.heap.size:=fun a ha=>by have:=uJ.out a ha; have:=uK.out; omega
 have hlo0:∀ a,lo=some a->a.block≠W.heap.size:=fun a ha=>by have:=uJ.out a ha; omega
 have He:=Zh hlo3;have UL:=Zh hlo0;clear adL P7 hk4 hk5 hlo3 hlo0;have FIN:Hid (∀ (Wx:World) (c:aj),GB Wx W.heap.size 73 cz.arr->aF mb lo lc l Wx->Kept (fun b=>b≠mb) W Wx->
   GB (((((Wx.setCell (aD W.heap.size 0) (.bool c.not)).setCell (aD W.heap.size 1) (.int .i64 c.op)).setCell (aD W.heap.size 2) (.int .i64 c.left)).setCell (aD W.heap.size 3) (.bool c.const)).setCell (aD W.heap.size 4) (.int .i64 c.right)) W.heap.size 73 c.arr/\
   aF mb lo lc l (((((Wx.setCell (aD W.heap.size 0) (.bool c.not)).setCell (aD W.heap.size 1) (.int .i64 c.op)).setCell (aD W.heap.size 2) (.int .i64 c.left)).setCell (aD W.heap.size 3) (.bool c.const)).setCell (aD W.heap.size 4) (.int .i64 c.right))/\
   Kept (fun b=>b≠mb) W (((((Wx.setCell (aD W.heap.size 0) (.bool c.not)).setCell (aD W.heap.size 1) (.int .i64 c.op)).setCell (aD W.heap.size 2) (.int .i64 c.left)).setCell (aD W.heap.size 3) (.bool c.const)).setCell (aD W.heap.size 4) (.int .i64 c.right))):=fun Wx c hG hM hK=>
  ⟨((((hG.set 0 _).set 1 _).set 2 _).set 3 _).set 4 _,((((hM.set _ hra UL.out).set _ hra UL.out).set _ hra UL.out).set _ hra UL.out).set _ hra UL.out,
   ((((hK.bL (Qq _) _).bL (Qq _) _).bL (Qq _) _).bL (Qq _) _).bL (Qq _) _⟩
 have TY:r3=0∨r3=1∨r3=2∨r3=3∨r3=4∨r3=5:=by omega
 rcases TY with rfl | rfl | rfl | rfl | rfl | rfl
 ·have Ga:=Xh mb lo lc l n W5 xe hn HL.out;go_wp2_with fail;refine Ga.mono ?_;rintro e W6 ⟨rt,rfl,hrt,aaf,zP,mQ⟩;clear Ga;have g6:=qf.keep mQ hcb;have q4:=(GB.five g6).c4;have p4:=(GB.five g6).f4;have UM:GB (W6.setCell (aD W3.heap.size 4) (.int .i64 rt)) W3.heap.size 73 (⟨nt,0,lf,false,rt⟩:aj).arr:=g6.set 4 _;have zQ:GB (W6.setCell (aD W3.heap.size 4) (.int .i64 rt)) W.heap.size 73 cz.arr:=(tQ.keep mQ hra).keep (s:=fun b=>b≠W3.heap.size) (Zv _ _ _ (fun h=>h rfl)) uK.out.2;have Ha:=zP.set (G:=W3.heap.size) (i:=4) (.int .i64 rt) hcb He.out;have jL:=(yP.trans mQ).bL (G:=W3.heap.size) (i:=4) uK.out.1 (.int .i64 rt);have HB:Hid (dO ⟨nt,0,lf,false,rt⟩ n=true):=show _=_ by simp[dO]; try omega
  simp only at q4;clear qf tQ xe yP g6 zP mQ;have hfin:=FIN.out _ (⟨nt,0,lf,false,rt⟩:aj) zQ Ha jL;have HF:=Zh hfin;have v:=GB.five UM;have v0:=v.c0;have v1:=v.c1;have v2:=v.c2;have v3:=v.c3;have v4:=v.c4;have u:=GB.five zQ;have u0:=u.c0;have u1:=u.c1;have u2:=u.c2;have u3:=u.c3;have u4:=u.c4;have z0:=u.f0;have z1:=u.f1;have z2:=u.f2;have z3:=u.f3;have z4:=u.f4;simp only[cz] at v0 v1 v2 v3 v4 u0 u1 u2 u3 u4;clear hfin v u FIN;go_wp2;refine Xi (Xj rfl _ _ W.heap.size 73 (⟨nt,0,lf,false,rt⟩:aj).arr (0,0) _ rfl HF.out.1 Tryz.underlying73 rfl (by kernel_rfl)) rfl ?_;exact⟨(⟨nt,0,lf,false,rt⟩:aj),rfl,HB.out,HF.out.2.1,HF.out.2.2⟩
 ·have Ga:=Xh mb lo lc l n W5 xe hn HL.out;go_wp2_with fail;refine Ga.mono ?_;rintro e W6 ⟨rt,rfl,hrt,aaf,zP,mQ⟩;clear Ga;have g6:=qf.keep mQ hcb;have q4:=(GB.five g6).c4;have p4:=(GB.five g6).f4;have UM:GB (W6.setCell (aD W3.heap.size 4) (.int .i64 rt)) W3.heap.size 73 (⟨nt,0,lf,false,rt⟩:aj).arr:=g6.set 4 _;have zQ:GB (W6.setCell (aD W3.heap.size 4) (.int .i64 rt)) W.heap.size 73 cz.arr:=(tQ.keep mQ hra).keep (s:=fun b=>b≠W3.heap.size) (Zv _ _ _ (fun h=>h rfl)) uK.out.2;have Ha:=zP.set (G:=W3.heap.size) (i:=4) (.int .i64 rt) hcb He.out;have jL:=(yP.trans mQ).bL (G:=W3.heap.size) (i:=4) uK.out.1 (.int .i64 rt);have HB:Hid (dO ⟨nt,0,lf,false,rt⟩ n=true):=show _=_ by simp[dO]; try omega
  simp only at q4;clear qf tQ xe yP g6 zP mQ;have hfin:=FIN.out _ (⟨nt,0,lf,false,rt⟩:aj) zQ Ha jL;have HF:=Zh hfin;have v:=GB.five UM;have v0:=v.c0;have v1:=v.c1;have v2:=v.c2;have v3:=v.c3;have v4:=v.c4;have u:=GB.five zQ;have u0:=u.c0;have u1:=u.c1;have u2:=u.c2;have u3:=u.c3;have u4:=u.c4;have z0:=u.f0;have z1:=u.f1;have z2:=u.f2;have z3:=u.f3;have z4:=u.f4;simp only[cz] at v0 v1 v2 v3 v4 u0 u1 u2 u3 u4;clear hfin v u FIN;go_wp2;refine Xi (Xj rfl _ _ W.heap.size 73 (⟨nt,0,lf,false,rt⟩:aj).arr (0,0) _ rfl HF.out.1 Tryz.underlying73 rfl (by kernel_rfl)) rfl ?_;exact⟨(⟨nt,0,lf,false,rt⟩:aj),rfl,HB.out,HF.out.2.1,HF.out.2.2⟩
 ·have Ga:=Xh mb lo lc l n W5 xe hn HL.out;go_wp2_with fail;refine Ga.mono ?_;rintro e W6 ⟨rt,rfl,hrt,aaf,zP,mQ⟩;clear Ga;have g6:=qf.keep mQ hcb;have q4:=(GB.five g6).c4;have p4:=(GB.five g6).f4;have UM:GB (W6.setCell (aD W3.heap.size 4) (.int .i64 rt)) W3.heap.size 73 (⟨nt,0,lf,false,rt⟩:aj).arr:=g6.set 4 _;have zQ:GB (W6.setCell (aD W3.heap.size 4) (.int .i64 rt)) W.heap.size 73 cz.arr:=(tQ.keep mQ hra).keep (s:=fun b=>b≠W3.heap.size) (Zv _ _ _ (fun h=>h rfl)) uK.out.2;have Ha:=zP.set (G:=W3.heap.size) (i:=4) (.int .i64 rt) hcb He.out;have jL:=(yP.trans mQ).bL (G:=W3.heap.size) (i:=4) uK.out.1 (.int .i64 rt);have HB:Hid (dO ⟨nt,0,lf,false,rt⟩ n=true):=show _=_ by simp[dO]; try omega
  simp only at q4;clear qf tQ xe yP g6 zP mQ;have hfin:=FIN.out _ (⟨nt,0,lf,false,rt⟩:aj) zQ Ha jL;have HF:=Zh hfin;have v:=GB.five UM;have v0:=v.c0;have v1:=v.c1;have v2:=v.c2;have v3:=v.c3;have v4:=v.c4;have u:=GB.five zQ;have u0:=u.c0;have u1:=u.c1;have u2:=u.c2;have u3:=u.c3;have u4:=u.c4;have z0:=u.f0;have z1:=u.f1;have z2:=u.f2;have z3:=u.f3;have z4:=u.f4;simp only[cz] at v0 v1 v2 v3 v4 u0 u1 u2 u3 u4;clear hfin v u FIN;go_wp2;refine Xi (Xj rfl _ _ W.heap.size 73 (⟨nt,0,lf,false,rt⟩:aj).arr (0,0) _ rfl HF.out.1 Tryz.underlying73 rfl (by kernel_rfl)) rfl ?_;exact⟨(⟨nt,0,lf,false,rt⟩:aj),rfl,HB.out,HF.out.2.1,HF.out.2.2⟩
 ·have h3c:=(GB.five qf).c3;have h3f:=(GB.five qf).f3;have Lr:GB (W5.setCell (aD W3.heap.size 3) (.bool true)) W3.heap.size 73 (⟨nt,0,lf,true,0⟩:aj).arr:=qf.set 3 _;have zR:GB (W5.setCell (aD W3.heap.size 3) (.bool true)) W.heap.size 73 cz.arr:=tQ.keep (s:=fun b=>b≠W3.heap.size) (Zv _ _ _ (fun h=>h rfl)) uK.out.2;have zP:=xe.set (G:=W3.heap.size) (i:=3) (.bool true) hcb He.out;have mQ:=yP.bL (G:=W3.heap.size) (i:=3) uK.out.1 (.bool true);have Ga:=Xh mb lo lc l 5 _ zP (by omega) HL.out;simp only at h3c;go_wp2_with fail;refine Ga.mono ?_;rintro e W7 ⟨rt,rfl,hrt,aaf,Ha,jL⟩;clear Ga zP;have hw:wrap64 (rt-1)=rt-1:=by unfold wrap64; omega
  have g7:=Lr.keep jL hcb;have q4:=(GB.five g7).c4;have p4:=(GB.five g7).f4;have adM:GB (W7.setCell (aD W3.heap.size 4) (.int .i64 (rt-1))) W3.heap.size 73 (⟨nt,0,lf,true,rt-1⟩:aj).arr:=g7.set 4 _;have En:GB (W7.setCell (aD W3.heap.size 4) (.int .i64 (rt-1))) W.heap.size 73 cz.arr:=(zR.keep jL hra).keep (s:=fun b=>b≠W3.heap.size) (Zv _ _ _ (fun h=>h rfl)) uK.out.2;have PZ:=Ha.set (G:=W3.heap.size) (i:=4) (.int .i64 (rt-1)) hcb He.out;have Og:=(mQ.trans jL).bL (G:=W3.heap.size) (i:=4) uK.out.1 (.int .i64 (rt-1));have HB:Hid (dO ⟨nt,0,lf,true,rt-1⟩ n=true):=show _=_ by simp[dO]; try omega
  simp only at q4;clear qf tQ xe yP g7 Ha jL Lr zR mQ h3c h3f;have hfin:=FIN.out _ (⟨nt,0,lf,true,(rt-1)⟩:aj) En PZ Og;have HF:=Zh hfin;have v:=GB.five adM;have v0:=v.c0;have v1:=v.c1;have v2:=v.c2;have v3:=v.c3;have v4:=v.c4;have u:=GB.five En;have u0:=u.c0;have u1:=u.c1;have u2:=u.c2;have u3:=u.c3;have u4:=u.c4;have z0:=u.f0;have z1:=u.f1;have z2:=u.f2;have z3:=u.f3;have z4:=u.f4;simp only[cz] at v0 v1 v2 v3 v4 u0 u1 u2 u3 u4;clear hfin v u FIN;go_wp2;refine Xi (Xj rfl _ _ W.heap.size 73 (⟨nt,0,lf,true,(rt-1)⟩:aj).arr (0,0) _ rfl HF.out.1 Tryz.underlying73 rfl (by kernel_rfl)) rfl ?_;exact⟨(⟨nt,0,lf,true,(rt-1)⟩:aj),rfl,HB.out,HF.out.2.1,HF.out.2.2⟩
 ·have h1c:=(GB.five qf).c1;have h1f:=(GB.five qf).f1;have Lr:GB (W5.setCell (aD W3.heap.size 1) (.int .i64 1)) W3.heap.size 73 (⟨nt,1,lf,false,0⟩:aj).arr:=qf.set 1 _;have zR:GB (W5.setCell (aD W3.heap.size 1) (.int .i64 1)) W.heap.size 73 cz.arr:=tQ.keep (s:=fun b=>b≠W3.heap.size) (Zv _ _ _ (fun h=>h rfl)) uK.out.2;have zP:=xe.set (G:=W3.heap.size) (i:=1) (.int .i64 1) hcb He.out;have mQ:=yP.bL (G:=W3.heap.size) (i:=1) uK.out.1 (.int .i64 1);have Ga:=Xh mb lo lc l n _ zP hn HL.out;simp only at h1c;go_wp2_with fail;refine Ga.mono ?_;rintro e W7 ⟨rt,rfl,hrt,aaf,Ha,jL⟩;clear Ga zP;have g7:=Lr.keep jL hcb;have q4:=(GB.five g7).c4;have p4:=(GB.five g7).f4;have adM:GB (W7.setCell (aD W3.heap.size 4) (.int .i64 rt)) W3.heap.size 73 (⟨nt,1,lf,false,rt⟩:aj).arr:=g7.set 4 _;have En:GB (W7.setCell (aD W3.heap.size 4) (.int .i64 rt)) W.heap.size 73 cz.arr:=(zR.keep jL hra).keep (s:=fun b=>b≠W3.heap.size) (Zv _ _ _ (fun h=>h rfl)) uK.out.2;have PZ:=Ha.set (G:=W3.heap.size) (i:=4) (.int .i64 rt) hcb He.out;have Og:=(mQ.trans jL).bL (G:=W3.heap.size) (i:=4) uK.out.1 (.int .i64 rt);have HB:Hid (dO ⟨nt,1,lf,false,rt⟩ n=true):=show _=_ by simp[dO]; try omega
  simp only at q4;clear qf tQ xe yP g7 Ha jL Lr zR mQ h1c h1f;have hfin:=FIN.out _ (⟨nt,1,lf,false,rt⟩:aj) En PZ Og;have HF:=Zh hfin;have v:=GB.five adM;have v0:=v.c0;have v1:=v.c1;have v2:=v.c2;have v3:=v.c3;have v4:=v.c4;have u:=GB.five En;have u0:=u.c0;have u1:=u.c1;have u2:=u.c2;have u3:=u.c3;have u4:=u.c4;have z0:=u.f0;have z1:=u.f1;have z2:=u.f2;have z3:=u.f3;have z4:=u.f4;simp only[cz] at v0 v1 v2 v3 v4 u0 u1 u2 u3 u4;clear hfin v u FIN;go_wp2;refine Xi (Xj rfl _ _ W.heap.size 73 (⟨nt,1,lf,false,rt⟩:aj).arr (0,0) _ rfl HF.out.1 Tryz.underlying73 rfl (by kernel_rfl)) rfl ?_;exact⟨(⟨nt,1,lf,false,rt⟩:aj),rfl,HB.out,HF.out.2.1,HF.out.2.2⟩
 ·have h1c:=(GB.five qf).c1;have h1f:=(GB.five qf).f1;have Lr:GB (W5.setCell (aD W3.heap.size 1) (.int .i64 2)) W3.heap.size 73 (⟨nt,2,lf,false,0⟩:aj).arr:=qf.set 1 _;have zR:GB (W5.setCell (aD W3.heap.size 1) (.int .i64 2)) W.heap.size 73 cz.arr:=tQ.keep (s:=fun b=>b≠W3.heap.size) (Zv _ _ _ (fun h=>h rfl)) uK.out.2;have zP:=xe.set (G:=W3.heap.size) (i:=1) (.int .i64 2) hcb He.out;have mQ:=yP.bL (G:=W3.heap.size) (i:=1) uK.out.1 (.int .i64 2);have HB:Hid (dO ⟨nt,2,lf,false,0⟩ n=true):=show _=_ by simp[dO]; try omega
  simp only at h1c;clear qf tQ xe yP;have hfin:=FIN.out _ (⟨nt,2,lf,false,0⟩:aj) zR zP mQ;have HF:=Zh hfin;have v:=GB.five Lr;have v0:=v.c0;have v1:=v.c1;have v2:=v.c2;have v3:=v.c3;have v4:=v.c4;have u:=GB.five zR;have u0:=u.c0;have u1:=u.c1;have u2:=u.c2;have u3:=u.c3;have u4:=u.c4;have z0:=u.f0;have z1:=u.f1;have z2:=u.f2;have z3:=u.f3;have z4:=u.f4;simp only[cz] at v0 v1 v2 v3 v4 u0 u1 u2 u3 u4;clear hfin v u FIN;go_wp2;refine Xi (Xj rfl _ _ W.heap.size 73 (⟨nt,2,lf,false,0⟩:aj).arr (0,0) _ rfl HF.out.1 Tryz.underlying73 rfl (by kernel_rfl)) rfl ?_;exact⟨(⟨nt,2,lf,false,0⟩:aj),rfl,HB.out,HF.out.2.1,HF.out.2.2⟩
def Xk:=@GB.five
theorem vO {xs:List Int} {n p:Int} (h:bG xs n=true) (h0:0<=p) (h1:p<n):bG (xs++[p]) n=true:=by
 unfold bG at *;rw[List.all_append,h];simp[h0,h1]
theorem any_succ {xs:List Int} {p:Int} {k:Nat} (hk:k<xs.length):((xs.take (k+1)).any fun x=>x==p)=(((xs.take k).any fun x=>x==p) || (xs.getD k 0==p)):=by
 rw[Qk hk,List.any_append];simp[List.getD,hk]
theorem Mw {xs:List Int} {p:Int} (h:dF xs=true) (hp:(xs.any fun x=>x==p)=false):dF (xs++[p])=true:=by
 unfold dF at *;rw[Qx] at *;intro i hi j hj;rw[QT,XU] at hi;have hg:∀ m,m<xs.length->(xs++[p]).getD m 0=xs.getD m 0:=fun m hm=>by simp[List.getD,List.getElem?_append,hm]
 by_cases hl:i<xs.length
 ·rw[hg i hl,hg j (by omega)];exact h i hl j hj
 ·have hi':i=xs.length:=by omega
  subst hi';rw[hg j hj];have hl2:(xs++[p]).getD xs.length 0=p:=by simp[List.getD]
  rw[hl2];intro e;rw[List.any_eq_false] at hp;have hm:xs.getD j 0∈xs:=by simp[List.getD,hj]
  exact hp _ hm (by rw[<- e]; simp)
theorem aF.grown {mb:Nat} {lo:Option Addr} {lc:Nat} {l:List Int} {A B:World} (h:aF mb lo lc l A) {row:Option Nat} (hg:A.grownBy B row) (h1:row≠some mb) (h2:∀ a,lo=some a->row≠some a.block):aF mb lo lc l B:=by
 have hk:Kept (fun b=>row≠some b) A B:=Zw hg (fun r e h=>h e);obtain⟨k,hk1,hk2⟩:=h.num;exact⟨⟨k,hk1,Zr hk2 hk h1⟩,Zr h.lst hk h1,(ZB (a:=(aD mb 1)) (hk.block mb h.lt h1)).trans h.thaw,⟨h.ints.1,h.ints.2.keep fun a ha hlt=>hk.block _ hlt (h2 a ha)⟩,h.off⟩
theorem uD (mb:Nat) (lo:Option Addr) (lc:Nat) (l:List Int) (n:Int) (most:Nat) (W:World) (hm:aF mb lo lc l W) (hl:∀ x∈l,-9223372036854775808<=x/\x<=9223372036854775807) (hlo:∀ a,lo=some a->a.block<W.heap.size) (hn:0<n) (hmo:most<=100) :
  Calls Tryz.prog 31 #[.pointer (some (aD mb 0)),.int .i64 n,.int .i64 most] W fun e W'=>∃ (v:Value) (xs:List Int),e=.returned v/\W'.ownsRow W.heap.size 3 1 v xs.length (xs.map (Value.int .i64))/\bG xs n=true/\dF xs=true/\xs.length<=most/\aF mb lo lc l W'/\Kept (fun b=>b≠mb) W W':=by
 obtain⟨i0,hi,hz0,hz1,hz2⟩:=ZC Tryz.iZ;have hmb:=hm.lt;have hn1:=Xh mb lo lc l ((most:Int)+1) W hm (by omega) hl;have hw1:wrap64 ((most:Int)+1)=(most:Int)+1:=by unfold wrap64; omega
 have HL:=Zh hl;have uJ:=Zh hlo;clear hl hlo hm;go_enter Tryz.func31,Tryz.ntmps31;go_wp2_with fail;refine hn1.mono ?_;rintro e W2 ⟨r1,rfl,hr1,hr1',hM2,hk2⟩;obtain⟨k1,rfl⟩:∃ k:Nat,r1=(k:Int):=⟨r1.toNat,by omega⟩
 clear hn1 hw1;go_wp2;go_loopw [7,8] (fun v i wr=>∃ (k:Nat) (xs:List Int),i=.int .i64 k/\xs.length+k<=most/\wr.ownsRow W.heap.size 3 1 v xs.length (xs.map (Value.int .i64))/\Hid (bG xs n=true/\dF xs=true)/\aF mb lo lc l wr/\Kept (fun b=>b≠mb) W wr) (fun _ i _=>(intOf i).toNat)
 case atStart=>exact⟨k1,[],rfl,by simp; omega,ZE _ _ _ _,⟨rfl,rfl⟩,hM2,hk2⟩
 case round=>
  obtain⟨k,xs,rfl,hkm,hown,hok,hM,hK⟩:=hrel;clear hM2 hk2;by_cases h0:0<k
  ·skip;have hn2:=Xh mb lo lc l n wr hM hn HL.out;go_wp2_with fail;refine hn2.mono ?_;rintro e W3 ⟨p,rfl,hp0,hp1,wY,hk3⟩;clear hn2;have hown3:=Zx hown hk3 (fun g hg=>by have:=(Zy hown hg).1; omega);have aeM:=hK.trans hk3;obtain⟨iv,oh,nG,iX,-⟩:=jH hown3 (by omega);obtain⟨lq,ed,iD⟩:=iv;simp only at nG;subst nG;unfold ah.val at oh;simp only at oh;subst oh;have hints:=iX.1;have HI:Hid _:=hints;clear hown hM hK iX hints;go_wp2;go_loopw [10,11] (fun tw i ws=>∃ (m:Nat),m<=iD.length/\i=.int .i64 m/\tw=.bool ((iD.take m).any fun x=>x==p)/\W3=ws) (fun _ i _=>iD.length-(intOf i).toNat)
   case atStart=>exact⟨0,QQ _,rfl,rfl,rfl⟩
   case round=>
    obtain⟨m,hm,rfl,rfl,rfl⟩:=hrel;by_cases Hw:m<iD.length
    ·obtain⟨b,off,rfl,hcs⟩:=HI.out.get Hw;have hcm:=hcs m Hw;have HS:=Zh (any_succ (p:=p) Hw);generalize iD.getD m 0=y at *;generalize ((iD.take m).any fun x=>x==p)=tw at *;clear hcs
     cases tw with
     | true =>
      go_wp2;go_roundw
      case rel=>exact⟨m+1,by omega,by go_num,by rw[HS.out]; rfl,trivial⟩
      case measure=>simp[intOf]; omega
     | false =>
      go_wp2;go_roundw
      case rel=>exact⟨m+1,by omega,by go_num,by rw[HS.out]; simp,trivial⟩
      case measure=>simp[intOf]; omega
    ·have hmm:m=iD.length:=by omega
     subst hmm;rw[Qt];have hsz:=aeM.size;have HM3:=Zh wY
     cases htw:(iD.any fun x=>x==p) with
     | true =>
      have hw2:wrap64 (((k:Int))-1)=((k-1:Nat):Int):=by unfold wrap64; omega
      have Rm:Hid _:=hown3;clear hw2 hown3;go_wp2;go_roundw
      case rel=>exact⟨k-1,iD,congrArg (Value.int .i64) (show _=((k-1:Nat):Int) by omega),by omega,Rm.out,hok,HM3.out,aeM⟩
      case measure=>simp[intOf]; omega
     | false =>
      have Rm:Hid _:=hown3;go_wp2_with (first | (at_builtin; refine wpList_append_own _ rfl _ _ 22 rfl W.heap.size 3 i0 (.int .i64 0) 1 8 Tryz.underlying22 hi hz0 hz1 hz2 rfl (by decide) _ _ _ rfl (hown3.alloc _) (aD W3.heap.size 0) 1 1 [.int .i64 p] rfl rfl ?q1 ?q2 ?q3 ?q4 ?q5 ?_))
      case q1=>
       intro j u hj
       match j,hj with
       | 0,hj => simp at hj; subst hj; simp[Addr.add]
      case q2=>intro u hu; simp at hu; subst hu; rfl
      case q3=>unfold maxLen; omega
      case q4=>omega
      case q5=>simp; omega
      intro v' w1 hown1 hgrow1 _;have zb:∀ g,(Value.slice lq iD.length ed).ownBlock=some g->W.heap.size<=g:=fun g hg=>(Zy Rm.out hg).1
      have hMa:=(aF.alloc HM3.out (.cells #[.int .i64 p] 3)).grown hgrow1 (fun e=>by have:=zb _ e; omega) (fun a ha e=>by have:=zb _ e; have:=uJ.out a ha; omega);have hKa:Kept (fun b=>b≠mb) W w1:=by
       have h1:Kept (fun b=>b≠mb) W (W3.alloc (.cells #[.int .i64 p] 3)):=aeM.trans (Zc _ _);exact ((h1.mono (t:=fun b=>b≠mb/\b<W.heap.size) (fun b _ h=>h.1)).trans (Zw hgrow1 (fun r e h=>by have:=zb r e; have:=h.2; omega))).mono (fun b hb h=>⟨h,hb⟩)
      have Ls:Hid _:=hown1;have HMa:=Zh hMa;have HKa:=Zh hKa;clear hown1 hgrow1 hown3 hMa hKa;go_wp2;go_roundw
      case rel=>exact⟨k-1,iD++[p],congrArg (Value.int .i64) (show _=((k-1:Nat):Int) by omega),by rw[QT,XU]; omega,by rw[QT,Ql]; exact Ls.out,⟨vO hok.out.1 hp0 hp1,Mw hok.out.2 htw⟩,HMa.out,HKa.out⟩
      case measure=>simp[intOf]; omega
  ·have hk0:k=0:=by omega
   subst hk0;go_wp2;go_ret;exact⟨_,xs,rfl,hown,hok.out.1,hok.out.2,by omega,hM,hK⟩
theorem aF.eH {mb:Nat} {lo:Option Addr} {lc:Nat} {l:List Int} {A B:World} {s:Nat->Prop} (h:aF mb lo lc l A) (hk:Kept s A B) (h1:s mb) (h2:∀ a,lo=some a->s a.block):aF mb lo lc l B:=by
 obtain⟨k,hk1,hk2⟩:=h.num;exact⟨⟨k,hk1,Zr hk2 hk h1⟩,Zr h.lst hk h1,(ZB (a:=(aD mb 1)) (hk.block mb h.lt h1)).trans h.thaw,⟨h.ints.1,h.ints.2.keep fun a ha hlt=>hk.block _ hlt (h2 a ha)⟩,h.off⟩
def caseA (cv:Value) (q:ae) (dv:Value):Array Value:=#[cv,q.src.val,.slice q.bY q.wh.length q.aI,.bool q.group,q.keys.val,q.sums.val,q.aQ.val,q.ord.val,dv]
theorem Ff (co:Option Addr) (cc:Nat) (ts:List af) (q:ae) (dv:Value) (hdv:∃ a m c,dv=.slice a m c) (w:World) (hx:aJ w co ts) (hc:fo ts=true) (hq:q.src.At w) (h5:q.src.xs.length<=5) (ha:bG q.src.xs ts.length=true) :
  Calls Tryz.prog 29 #[.agg (caseA (.slice co ts.length cc) q dv)] w fun e w'=>e=.returned (.int .i64 (aO ts q.src.xs))/\Below w.heap.size w w':=by
 obtain⟨da,dm,dc,rfl⟩:=hdv;obtain⟨⟨pY,ig,xs⟩,bY,aI,wh,group,keys,sums,aQ,ord⟩:=q;unfold ah.At at hq;simp only at h5 ha hq;unfold caseA ah.val;simp only;have HC:=Zh hc;have HA:=Zh ha;have hb:=bU w (.cells #[.slice co ts.length cc,.slice pY xs.length ig,.slice bY wh.length aI,.bool group,.slice keys.ad keys.xs.length keys.cap,.slice sums.ad sums.xs.length sums.cap,.slice aQ.ad aQ.xs.length aQ.cap,.slice ord.ad ord.xs.length ord.cap,.slice da dm dc] 29);have hX:=hx.below hb;have hQ:=Qo hb hq;have c0:(w.alloc (.cells #[.slice co ts.length cc,.slice pY xs.length ig,.slice bY wh.length aI,.bool group,.slice keys.ad keys.xs.length keys.cap,.slice sums.ad sums.xs.length sums.cap,.slice aQ.ad aQ.xs.length aQ.cap,.slice ord.ad ord.xs.length ord.cap,.slice da dm dc] 29)).cell? (aD w.heap.size 0)=some (.slice co ts.length cc):=by simp
 have c1:(w.alloc (.cells #[.slice co ts.length cc,.slice pY xs.length ig,.slice bY wh.length aI,.bool group,.slice keys.ad keys.xs.length keys.cap,.slice sums.ad sums.xs.length sums.cap,.slice aQ.ad aQ.xs.length aQ.cap,.slice ord.ad ord.xs.length ord.cap,.slice da dm dc] 29)).cell? (aD w.heap.size 1)=some (.slice pY xs.length ig):=by simp
 have HB:=Zh hb;clear hc ha hx hq hb;go_enter Tryz.func29,Tryz.ntmps29;go_wp2;obtain⟨w1,hw1⟩:∃ w1,w.alloc (.cells #[.slice co ts.length cc,.slice pY xs.length ig,.slice bY wh.length aI,.bool group,.slice keys.ad keys.xs.length keys.cap,.slice sums.ad sums.xs.length sums.cap,.slice aQ.ad aQ.xs.length aQ.cap,.slice ord.ad ord.xs.length ord.cap,.slice da dm dc] 29)=w1:=⟨_,rfl⟩
 rw[hw1] at HB hX hQ c0 c1;rw[hw1];clear hw1;go_loopw [3,4] (fun n i wr=>∃ k:Nat,k<=xs.length/\i=.int .i64 k/\n=.int .i64 (aO ts (xs.take k))/\Below w1.heap.size w1 wr) (fun _ i _=>xs.length-(intOf i).toNat)
 case atStart=>exact⟨0,QQ _,rfl,rfl,Qp _ _⟩
 case round=>
  obtain⟨k,hk,rfl,rfl,hbr⟩:=hrel;have hbd:=rJ HC.out HA.out k hk;have d0:=cB hbr c0;have d1:=cB hbr c1;by_cases hlt:k<xs.length
  ·obtain⟨sb,anR,rfl,hs⟩:=hQ.get hlt;have hsk:=cB hbr (hs k hlt);have hr:=lu HA.out hlt;have kR:=om HC.out (i:=xs[k].toNat) (by omega);obtain⟨b,off,rfl,t0,-⟩:=hX.2 xs[k].toNat (by omega);have hck:=cB hbr t0;have HS:=Zh (jm ts xs k hlt);generalize (ts.getD xs[k].toNat tz).aH=cl at *;generalize aO ts (xs.take k)=W0 at *;have e1:xs.getD k 0=xs[k]:=by simp[List.getD,hlt]
   rw[e1] at hsk;clear hs t0 hX hQ e1;generalize hxk:xs[k]=xk at *;clear hxk;obtain⟨xn,rfl⟩:∃ xn:Nat,xk=(xn:Int):=⟨xk.toNat,by omega⟩
   simp only[Q3] at hck;have hwr:wrap64 (W0+cl)=W0+cl:=by unfold wrap64; omega
   go_wp2;go_quiet (fail);go_wp2;go_roundw
   case rel=>exact⟨k+1,by omega,by go_num,by rw[HS.out],below_drewN hbr _⟩
   case measure=>simp[intOf]; omega
  ·go_wp2;go_ret;have:k=xs.length:=by omega
   subst this;exact⟨Qe (by rw[Qt]),HB.out.trans (hbr.mono HB.out.size)⟩
theorem VE {ts:List af} (h:fo ts=true):1<=ts.length/\ts.length<=8:=by
 unfold fo at h;simp only[Qm,Qx] at h;exact h.1
theorem AU {ts:List af} {xs:List Int} (hc:fo ts=true) (ha:bG xs ts.length=true) (h1:1<=xs.length) (h5:xs.length<=5):1<=aO ts xs/\aO ts xs<=20:=by
 have kR:∀ t∈xs,1<=(ts.getD t.toNat tz).aH/\(ts.getD t.toNat tz).aH<=4:=fun t ht=>by
  unfold bG at ha;rw[Qn] at ha;have:=ha t ht;simp only[Qm,Qx] at this;exact om hc (i:=t.toNat) (by omega)
 have hg:∀ l:List Int,(∀ t∈l,1<=(ts.getD t.toNat tz).aH/\(ts.getD t.toNat tz).aH<=4)->(l.length:Int)<=aO ts l/\aO ts l<=4*l.length:=by
  intro l
  induction l with
  | nil => intro _; simp[aO]
  | cons a l ih =>
   intro h;have h1:=ih (fun t ht=>h t (by simp[ht]));have h2:=h a (by simp);have h3:aO ts (a::l)=(ts.getD a.toNat tz).aH+aO ts l:=by simp[aO]
   rw[h3,Q5];omega
 have:=hg xs kR;omega
def iO:ah:=⟨none,0,[]⟩
def qz:ae:=⟨iO,none,0,[],false,iO,iO,iO,iO⟩
structure dX (mb qb:Nat) (lo:Option Addr) (lc:Nat) (l:List Int) (e tq:TypeId) (W0:World) (c:Value->Array Value) (W:World) (v:Value) (xs:List Int):Prop where
 gb:GB W qb tq (c v)
 own:W.ownsRow W0.heap.size e 1 v xs.length (xs.map (Value.int .i64))
 Gf:aF mb lo lc l W
 kept:Kept (fun b=>b≠mb/\b≠qb) W0 W
theorem dX.keep {mb qb:Nat} {lo:Option Addr} {lc:Nat} {l:List Int} {e tq:TypeId} {W0:World} {c:Value->Array Value} {A B:World} {v:Value} {xs:List Int} (h:dX mb qb lo lc l e tq W0 c A v xs) (hk:Kept (fun b=>b≠mb) A B) (hm:aF mb lo lc l B)
  (hq:qb≠mb) (hmb:mb<W0.heap.size):dX mb qb lo lc l e tq W0 c B v xs:=
 ⟨h.gb.keep hk hq,Zx h.own hk (fun g hg=>by have:=(Zy h.own hg).1; omega),hm,h.kept.trans (hk.mono fun b _ h=>h.1)⟩
theorem dX.more {mb qb:Nat} {lo:Option Addr} {lc:Nat} {l:List Int} {e tq:TypeId} {W0:World} {c:Value->Array Value} {A A1 B:World} {v v':Value} {xs:List Int} (h:dX mb qb lo lc l e tq W0 c A v xs) {f:Nat} {p:Int}
  (ha:Kept (fun _=>True) A A1) (hown:B.ownsRow W0.heap.size e 1 v' (xs.length+1) (xs.map (Value.int .i64)++[.int .i64 p])) (hg:A1.grownBy B v.ownBlock) (hc:(c v).setIfInBounds f v' = c v')
  (hq:qb≠mb) (hmb:mb<W0.heap.size) (hqb:qb<W0.heap.size) (hlo:∀ a,lo=some a->a.block<W0.heap.size/\a.block≠qb) :
  dX mb qb lo lc l e tq W0 c (B.setCell (aD qb f) v') v' (xs++[p]):=by
 have hvb:∀ g,v.ownBlock=some g->W0.heap.size<=g:=fun g hg=>(Zy h.own hg).1
 have Gw:∀ g,v'.ownBlock=some g->W0.heap.size<=g:=fun g hg=>(Zy hown hg).1
 have hk1:Kept (fun b=>v.ownBlock≠some b) A B:=(ha.mono fun _ _ _=>trivial).trans (Zw hg (fun r e hr=>hr e));have hk2:Kept (fun b=>v.ownBlock≠some b/\b≠qb) A (B.setCell (aD qb f) v'):=(hk1.mono fun _ _ h=>h.1).trans (Zv _ _ _ (fun h=>h.2 rfl));refine⟨?_,?_,?_,?_⟩
 ·have hgB:=h.gb.keep hk1 (fun e=>by have:=hvb _ e; omega);have:=hgB.set f v'
  rwa [hc] at this
 ·have:=Zx hown (s:=fun b=>b≠qb) (Zv B (aD qb f) v' (fun h=>h rfl)) (fun g hg=>by have:=Gw g hg; omega)
  simpa using this
 ·exact h.Gf.eH hk2 ⟨fun e=>by have:=hvb _ e; omega,Ne.symm hq⟩ (fun a ha=>⟨fun e=>by have:=hvb _ e; have:=(hlo a ha).1; omega,(hlo a ha).2⟩)
 ·exact ((h.kept.mono (t:=fun b=>(b≠mb/\b≠qb)/\b<W0.heap.size) (fun b _ h=>h.1)).trans (hk2.mono fun b _ h=>⟨fun e=>by have:=hvb _ e; have:=h.2; omega,h.1.2⟩)).mono (fun b hb h=>⟨h,hb⟩)
theorem dX.far {mb qb:Nat} {lo:Option Addr} {lc:Nat} {l:List Int} {e tq:TypeId} {W0:World} {c:Value->Array Value} {A A1 B:World} {v:Value} {xs:List Int} (h:dX mb qb lo lc l e tq W0 c A v xs)
  (ha:Kept (fun _=>True) A A1) (hg:A1.grownBy B v.ownBlock):Kept (fun b=>b<W0.heap.size) A B:=
 (ha.mono fun _ _ _=>trivial).trans (Zw hg (fun r e hr=>by have:=(Zy h.own e).1; omega))
theorem aJ.keep {A B:World} {ao:Option Addr} {ts:List af} (h:aJ A ao ts) (hb:∀ a,ao=some a->a.block<A.heap.size->B.heap[a.block]? = A.heap[a.block]?):aJ B ao ts:=by
 refine⟨h.1,fun i hi=>?_⟩;obtain⟨b,off,rfl,h0,h1,h2,h3,h4,h5⟩:=h.2 i hi;have hl:b<A.heap.size:=Zf (p:=(aD b (off+i*6))) h0;have hbk:=hb (aD b off) rfl hl;exact⟨b,off,rfl,(Zg (a:=(aD b (off+i*6))) hbk).trans h0,(Zg (a:=(aD b (off+i*6+1))) hbk).trans h1,(Zg (a:=(aD b (off+i*6+2))) hbk).trans h2,
  (Zg (a:=(aD b (off+i*6+3))) hbk).trans h3,(Zg (a:=(aD b (off+i*6+4))) hbk).trans h4,(Zg (a:=(aD b (off+i*6+5))) hbk).trans h5⟩
theorem aR.keep {A B:World} {ao:Option Addr} {cs:List aj} (h:aR A ao cs) (hb:∀ a,ao=some a->a.block<A.heap.size->B.heap[a.block]? = A.heap[a.block]?):aR B ao cs:=by
 refine⟨h.1,fun i hi=>?_⟩;obtain⟨b,off,rfl,h0,h1,h2,h3,h4⟩:=h.2 i hi;have hl:b<A.heap.size:=Zf (p:=(aD b (off+i*5))) h0;have hbk:=hb (aD b off) rfl hl;exact⟨b,off,rfl,(Zg (a:=(aD b (off+i*5))) hbk).trans h0,(Zg (a:=(aD b (off+i*5+1))) hbk).trans h1,(Zg (a:=(aD b (off+i*5+2))) hbk).trans h2,
  (Zg (a:=(aD b (off+i*5+3))) hbk).trans h3,(Zg (a:=(aD b (off+i*5+4))) hbk).trans h4⟩
def ik (n:Nat) (x:ah) (S:World):Prop:=bC.At x S/\(∀ b,bC.blk x=some b->n<=b)/\x.xs.length<=x.cap
theorem ik.keep {n:Nat} {x:ah} {A B:World} {s:Nat->Prop} (h:ik n x A) (hk:Kept s A B) (hs:∀ b,n<=b->s b):ik n x B:=
 ⟨bC.keep h.1 hk.size (fun b hb hx=>hk.block b hb (hs b (h.2.1 b hx))),h.2.1,h.2.2⟩
theorem ik.nil (n:Nat) (S:World):ik n iO S:=
 ⟨⟨⟨by simp[iO],fun i hi=>absurd hi (by simp[iO])⟩,(fun a ha=>by cases ha),fun _=>rfl⟩,(fun b hb=>by cases hb),by simp[iO]⟩
theorem gX {w:World} {base n:Nat} {e:TypeId} {v:Value} {k:Nat} {xs:List Int} (h:w.ownsRow base e 1 v k (xs.map (Value.int .i64))) (hl:xs.length<=1000) (hb:n<=base):∃ iv:ah,v=iv.val/\iv.xs=xs/\ik n iv w:=by
 obtain⟨iv,hv,hx,hat,hbb⟩:=jH h (by omega);refine⟨iv,hv,hx,hat,fun b hb'=>Q4 hb (hbb b hb'),?_⟩;have hn:xs.length=k:=by have:=h.1; simpa using this
 rcases h.2 with⟨hv',h0⟩ | ⟨g,cap,cur,hv',_,_,hc,_⟩
 ·rw[hx]; omega
 ·rw[hv] at hv';unfold ah.val at hv';injection hv' with h1 h2 h3;omega
def vP (n:Nat) (ad:Option Addr) (ls:List ay) (S:World):Prop:=
 eF S ad ls/\(∀ a,ad=some a->n<=a.block)/\∀ i,i<ls.length->∀ a,(ls.getD i lz).ad=some a->n<=a.block
theorem vP.keep {n:Nat} {ad:Option Addr} {ls:List ay} {A B:World} {s:Nat->Prop} (h:vP n ad ls A) (hk:Kept s A B) (hs:∀ b,n<=b->s b):vP n ad ls B:=
 ⟨⟨h.1.1,h.1.2.1.keep fun a ha hlt=>hk.block _ hlt (hs _ (h.2.1 a ha)),fun i hi=>(h.1.2.2 i hi).keep fun a ha hlt=>hk.block _ hlt (hs _ (h.2.2 i hi a ha))⟩,h.2.1,h.2.2⟩
structure di (n:Nat) (q:ae) (S:World):Prop where
 src:ik n q.src S
 wh:vP n q.bY q.wh S
 keys:ik n q.keys S
 sums:ik n q.sums S
 aQ:ik n q.aQ S
 ord:ik n q.ord S
 nil:q.bY=none->q.aI=0
theorem di.keep {n:Nat} {q:ae} {A B:World} {s:Nat->Prop} (h:di n q A) (hk:Kept s A B) (hs:∀ b,n<=b->s b):di n q B:=
 ⟨h.src.keep hk hs,h.wh.keep hk hs,h.keys.keep hk hs,h.sums.keep hk hs,h.aQ.keep hk hs,h.ord.keep hk hs,h.nil⟩
theorem ik.lower {n m:Nat} {x:ah} {S:World} (h:ik n x S) (hm:m<=n):ik m x S:=⟨h.1,fun b hb=>Q4 hm (h.2.1 b hb),h.2.2⟩
theorem di.lower {n m:Nat} {q:ae} {S:World} (h:di n q S) (hm:m<=n):di m q S:=
 ⟨h.src.lower hm,⟨h.wh.1,fun a ha=>Q4 hm (h.wh.2.1 a ha),fun i hi a ha=>Q4 hm (h.wh.2.2 i hi a ha)⟩,h.keys.lower hm,h.sums.lower hm,h.aQ.lower hm,h.ord.lower hm,h.nil⟩
theorem di.at' {n:Nat} {q:ae} {S:World} (h:di n q S):q.At S:=⟨h.src.1.1,h.wh.1,h.keys.1.1,h.sums.1.1,h.aQ.1.1,h.ord.1.1⟩
def XV:=@di.keep
structure jk (mb qb:Nat) (lo:Option Addr) (lc:Nat) (l:List Int) (e tq:TypeId) (W0:World) (c:Value->Array Value) (W:World) (v:Value) (ls:List ay):Prop where
 gb:GB W qb tq (c v)
 own:W.ownsRow W0.heap.size e 1 v ls.length (ls.map ay.val)
 cnd:∀ x∈ls,aR W x.ad x.cs/\∀ a,x.ad=some a->W0.heap.size<=a.block/\a.block<W.heap.size/\v.ownBlock≠some a.block
 Gf:aF mb lo lc l W
 kept:Kept (fun b=>b≠mb/\b≠qb) W0 W
theorem jk.keep {mb qb:Nat} {lo:Option Addr} {lc:Nat} {l:List Int} {e tq:TypeId} {W0:World} {c:Value->Array Value} {A B:World} {v:Value} {ls:List ay} (h:jk mb qb lo lc l e tq W0 c A v ls) (hk:Kept (fun b=>b≠mb) A B) (hm:aF mb lo lc l B)
  (hq:qb≠mb) (hmb:mb<W0.heap.size):jk mb qb lo lc l e tq W0 c B v ls:=
 ⟨h.gb.keep hk hq,Zx h.own hk (fun g hg=>by have:=(Zy h.own hg).1; omega),fun x hx=>⟨(h.cnd x hx).1.keep (fun a ha hlt=>hk.block _ hlt (by have:=((h.cnd x hx).2 a ha).1; omega)),fun a ha=>⟨((h.cnd x hx).2 a ha).1,by have:=((h.cnd x hx).2 a ha).2.1; have:=hk.size; omega,((h.cnd x hx).2 a ha).2.2⟩⟩,hm,h.kept.trans (hk.mono fun b _ h=>h.1)⟩
theorem jk.more {mb qb:Nat} {lo:Option Addr} {lc:Nat} {l:List Int} {e tq:TypeId} {W0:World} {c:Value->Array Value} {A A1 B:World} {v v':Value} {ls:List ay} (h:jk mb qb lo lc l e tq W0 c A v ls) {f:Nat} {x:ay}
  (hx:aR A x.ad x.cs) (hxb:∀ a,x.ad=some a->W0.heap.size<=a.block/\a.block<A.heap.size/\v.ownBlock≠some a.block)
  (ha:Kept (fun _=>True) A A1) (hs1:A1.heap.size=A.heap.size+1) (hown:B.ownsRow W0.heap.size e 1 v' (ls.length+1) (ls.map ay.val++[x.val])) (hg:A1.grownBy B v.ownBlock) (hat:v'.ownBlock=v.ownBlock∨v'.ownBlock=some A1.heap.size) (hc:(c v).setIfInBounds f v' = c v')
  (hq:qb≠mb) (hmb:mb<W0.heap.size) (hqb:qb<W0.heap.size) (hlo:∀ a,lo=some a->a.block<W0.heap.size/\a.block≠qb) :
  jk mb qb lo lc l e tq W0 c (B.setCell (aD qb f) v') v' (ls++[x]):=by
 have hvb:∀ g,v.ownBlock=some g->W0.heap.size<=g:=fun g hg=>(Zy h.own hg).1
 have Gw:∀ g,v'.ownBlock=some g->W0.heap.size<=g:=fun g hg=>(Zy hown hg).1
 have hk1:Kept (fun b=>v.ownBlock≠some b) A B:=(ha.mono fun _ _ _=>trivial).trans (Zw hg (fun r e hr=>hr e));have hk2:Kept (fun b=>v.ownBlock≠some b/\b≠qb) A (B.setCell (aD qb f) v'):=(hk1.mono fun _ _ h=>h.1).trans (Zv _ _ _ (fun h=>h.2 rfl));have hnew:∀ b,b<A.heap.size->v.ownBlock≠some b->v'.ownBlock≠some b:=fun b hb hn e=>by
  rcases hat with h | h
  ·exact hn (h ▸ e)
  ·rw[h] at e; cases e; omega
 have hone:∀ y:ay,aR A y.ad y.cs->(∀ a,y.ad=some a->W0.heap.size<=a.block/\a.block<A.heap.size/\v.ownBlock≠some a.block)->aR (B.setCell (aD qb f) v') y.ad y.cs/\∀ a,y.ad=some a->W0.heap.size<=a.block/\a.block<(B.setCell (aD qb f) v').heap.size/\v'.ownBlock≠some a.block:=fun y hy hyb=>
  ⟨hy.keep (fun a ha hlt=>hk2.block _ hlt ⟨(hyb a ha).2.2,by have:=(hyb a ha).1; omega⟩),fun a ha=>⟨(hyb a ha).1,by have:=(hyb a ha).2.1; have:=hk2.size; omega,hnew _ (hyb a ha).2.1 (hyb a ha).2.2⟩⟩
 refine⟨?_,?_,?_,?_,?_⟩
 ·have hgB:=h.gb.keep hk1 (fun e=>by have:=hvb _ e; omega);have:=hgB.set f v'
  rwa [hc] at this
 ·have:=Zx hown (s:=fun b=>b≠qb) (Zv B (aD qb f) v' (fun h=>h rfl)) (fun g hg=>by have:=Gw g hg; omega)
  simpa using this
 ·intro y hy;rcases QX.1 hy with hy | hy
  ·exact hone y (h.cnd y hy).1 (h.cnd y hy).2
  ·rw[QY] at hy;subst hy;exact hone y hx hxb
 ·exact h.Gf.eH hk2 ⟨fun e=>by have:=hvb _ e; omega,Ne.symm hq⟩ (fun a ha=>⟨fun e=>by have:=hvb _ e; have:=(hlo a ha).1; omega,(hlo a ha).2⟩)
 ·exact ((h.kept.mono (t:=fun b=>(b≠mb/\b≠qb)/\b<W0.heap.size) (fun b _ h=>h.1)).trans (hk2.mono fun b _ h=>⟨fun e=>by have:=hvb _ e; have:=h.2; omega,h.1.2⟩)).mono (fun b hb h=>⟨h,hb⟩)
theorem jk.far {mb qb:Nat} {lo:Option Addr} {lc:Nat} {l:List Int} {e tq:TypeId} {W0:World} {c:Value->Array Value} {A A1 B:World} {v:Value} {ls:List ay} (h:jk mb qb lo lc l e tq W0 c A v ls)
  (ha:Kept (fun _=>True) A A1) (hg:A1.grownBy B v.ownBlock):Kept (fun b=>b<W0.heap.size) A B:=
 (ha.mono fun _ _ _=>trivial).trans (Zw hg (fun r e hr=>by have:=(Zy h.own e).1; omega))
theorem IX (w:World) (c:aj) (e:TypeId):(w.alloc (.cells c.arr e)).ownsRow w.heap.size e 5 (.slice (some (aD w.heap.size 0)) 1 1) 1 ([c].flatMap aj.vals):=
 ⟨rfl,.inr ⟨w.heap.size,1,_,rfl,Qq _,kG w _,Qq _,by unfold maxLen; omega,rfl,rfl⟩⟩
def vQ (n:Int) (x:ay):Prop:=1<=x.cs.length/\x.cs.length<=3/\∀ c∈x.cs,dO c n=true
structure zl (ts:List af) (q:ae):Prop where
 src:bG q.src.xs ts.length=true/\1<=q.src.xs.length/\q.src.xs.length<=4
 wh:q.wh.length<=4/\∀ x∈q.wh,vQ (aO ts q.src.xs) x
 out:(q.group=true/\q.aQ.xs=[]/\q.keys.xs.length<=3/\bG q.keys.xs (aO ts q.src.xs)=true/\dF q.keys.xs=true/\q.sums.xs.length<=2/\bG q.sums.xs (aO ts q.src.xs)=true/\q.ord.xs.length<=2/\bG q.ord.xs ((q.keys.xs.length:Int)+1+q.sums.xs.length)=true/\dF q.ord.xs=true)∨
  (q.group=false/\q.keys.xs=[]/\q.sums.xs=[]/\1<=q.aQ.xs.length/\q.aQ.xs.length<=4/\bG q.aQ.xs (aO ts q.src.xs)=true/\q.ord.xs.length<=3/\bG q.ord.xs q.aQ.xs.length=true/\dF q.ord.xs=true)
theorem jk.anS {mb qb:Nat} {lo:Option Addr} {lc:Nat} {l:List Int} {e tq:TypeId} {W0:World} {c:Value->Array Value} {W:World} {v:Value} {ls:List ay} (h:jk mb qb lo lc l e tq W0 c W v ls) (hl:ls.length<=100) {n:Nat} (hn:n<=W0.heap.size) :
  ∃ ad cap,v=.slice ad ls.length cap/\vP n ad ls W/\(ad=none->cap=0):=by
 have hmem:∀ i,i<ls.length->ls.getD i lz∈ls:=fun i hi=>by simp[List.getD,hi]
 rcases h.own.2 with⟨rfl,h0⟩ | ⟨g,cap,cur,rfl,hb,hh,hc,_,hcs,ht⟩
 ·have:=Qz h0;subst this;exact⟨none,0,rfl,⟨⟨by simp,fun i hi=>absurd hi (by simp),fun i hi=>absurd hi (by simp)⟩,(fun a ha=>by cases ha),fun i hi=>absurd hi (by simp)⟩,fun _=>rfl⟩
 ·refine⟨some (aD g 0),cap,rfl,⟨⟨by omega,fun i hi=>⟨g,0,rfl,?_⟩,fun i hi=>(h.cnd _ (hmem i hi)).1⟩,(fun a ha=>by cases ha; exact Q4 hn hb),fun i hi a ha=>Q4 hn ((h.cnd _ (hmem i hi)).2 a ha).1⟩,fun e=>by cases e⟩;have h2:(cur.toList.take (ls.length*1))[i]? = some (ls.getD i lz).val:=by
   rw[ht];simp[List.getD,hi]
  have h3:cur[i]? = some (ls.getD i lz).val:=by
   rw[ZH] at h2;split at h2
   ·simpa using h2
   ·cases h2
  simp only[World.cell?,hh]
  simpa using h3
