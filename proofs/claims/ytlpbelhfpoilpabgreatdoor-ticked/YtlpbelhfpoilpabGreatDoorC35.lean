import Derived.Test.YtlpbelhfpoilpabGreatDoorC04
import Derived.Test.YtlpbelhfpoilpabGreatDoorC05
import Derived.Test.YtlpbelhfpoilpabGreatDoorC06
import Derived.Test.YtlpbelhfpoilpabGreatDoorC34
set_option linter.all false
set_option maxRecDepth 100000
set_option maxHeartbeats 16000000
namespace Go.Scout
open Go.RowKit
def tabA:Array Value:=#[.int .i64 0,.int .i64 1,.int .i64 7,.int .i64 20,.int .i64 100,.int .i64 5000,.int .i64 1000000]
def kindA:Array Value:=#[.int .i64 1,.int .i64 2,.int .i64 5,.int .i64 10,.int .i64 1000000]
theorem tabA_at {r:Nat} (h:r<7):∃ x:Int,tabA[r]? = some (.int .i64 x)/\0<=x/\x<=1000000:=by
 match r,h with
 | 0,_ => exact⟨0,rfl,by omega,by omega⟩
 | 1,_ => exact⟨1,rfl,by omega,by omega⟩
 | 2,_ => exact⟨7,rfl,by omega,by omega⟩
 | 3,_ => exact⟨20,rfl,by omega,by omega⟩
 | 4,_ => exact⟨100,rfl,by omega,by omega⟩
 | 5,_ => exact⟨5000,rfl,by omega,by omega⟩
 | 6,_ => exact⟨1000000,rfl,by omega,by omega⟩
theorem kindA_at {r:Nat} (h:r<5):∃ x:Int,kindA[r]? = some (.int .i64 x)/\1<=x/\x<=1000000:=by
 match r,h with
 | 0,_ => exact⟨1,rfl,by omega,by omega⟩
 | 1,_ => exact⟨2,rfl,by omega,by omega⟩
 | 2,_ => exact⟨5,rfl,by omega,by omega⟩
 | 3,_ => exact⟨10,rfl,by omega,by omega⟩
 | 4,_ => exact⟨1000000,rfl,by omega,by omega⟩
theorem MakerAt.lt {mb:Nat} {lo:Option Addr} {lc:Nat} {l:List Int} {A:World} (h:MakerAt mb lo lc l A):mb<A.heap.size:=cell_lt (p:=(aD mb 0)) h.lst
theorem MakerAt.alloc {mb:Nat} {lo:Option Addr} {lc:Nat} {l:List Int} {A:World} (h:MakerAt mb lo lc l A) (o:Obj):MakerAt mb lo lc l (A.alloc o):=h.keep (Kept.alloc _ _)
theorem MakerAt.set {mb:Nat} {lo:Option Addr} {lc:Nat} {l:List Int} {A:World} (h:MakerAt mb lo lc l A) {G i:Nat} (v:Value) (h1:G≠mb) (h2:∀ a,lo=some a->a.block≠G):MakerAt mb lo lc l (A.setCell (aD G i) v):=by
 have hk:Kept (fun b=>b≠G) A (A.setCell (aD G i) v):=Kept.setCell _ _ _ (fun h=>h rfl);obtain⟨k,hk1,hk2⟩:=h.num;exact⟨⟨k,hk1,cell_keepN hk2 hk (Ne.symm h1)⟩,cell_keepN h.lst hk (Ne.symm h1),(World.frozen?_of_block (a:=(aD mb 1)) (hk.block mb h.lt (Ne.symm h1))).trans h.thaw,⟨h.ints.1,h.ints.2.keep fun a ha hlt=>hk.block _ hlt (h2 a ha)⟩,h.off⟩
structure TabOk (t:TableD) (k:Nat):Prop where
 c1:1<=t.cols
 c3:t.cols<=3
 r0:0<=t.rows
 r1:t.rows<=1000000
 kd:∀ m,m<k->1<=t.kd m/\t.kd m<=1000000
end Go.Scout
namespace Go.Proofs.YtlpbelhfpoilpabGreatDoor
open Go.RowKit Go.Scout
theorem table_any (mb:Nat) (lo:Option Addr) (lc:Nat) (l:List Int) (W:World) (hm:MakerAt mb lo lc l W) (hl:∀ x∈l,-9223372036854775808<=x/\x<=9223372036854775807) (hlo:∀ a,lo=some a->a.block<W.heap.size) :
  Calls Tryz.prog 13 #[.pointer (some (aD mb 0))] W fun e W'=>∃ t:TableD,e=.returned (.agg t.vals)/\TabOk t t.cols.toNat/\MakerAt mb lo lc l W'/\Kept (fun b=>b≠mb) W W':=by
 have hmb:=hm.lt;have hM1:=hm.alloc (.cells tz.vals 49);have hG1:=GB.alloc W tz.vals 49;have hk1:Kept (fun b=>b≠mb) W (W.alloc (.cells tz.vals 49)):=Kept.alloc _ _;obtain⟨W1,hW1⟩:∃ W1,W.alloc (.cells tz.vals 49)=W1:=⟨_,rfl⟩
 rw[hW1] at hM1 hG1 hk1;have hs1:W1.heap.size=W.heap.size+1:=by rw[<- hW1]; simp
 have hn1:=next_any mb lo lc l 3 W1 hM1 (by omega) hl;have hW1':W.alloc (.cells #[.int .i64 0,.int .i64 0,.int .i64 0,.int .i64 0,.int .i64 0,.int .i64 0] 49)=W1:=hW1;have HL:Hid _:=hl;have HLO:Hid _:=hlo;clear hl hlo hM1 hm hW1;have HS1:Hid _:=hs1;clear hs1;go_enter Tryz.func13,Tryz.ntmps13;go_wp2_with fail;refine hn1.mono ?_;rintro e W2 ⟨r1,rfl,hr1,hr1',hM2,hk2⟩;clear hW1' hn1;have hkW2:Kept (fun b=>b≠mb) W W2:=hk1.trans hk2;have hra:W.heap.size≠mb:=by omega
 have hG2:GB W2 W.heap.size 49 tz.vals:=hG1.keep hk2 hra;have hw1:wrap64 (1+r1)=1+r1:=by unfold wrap64; omega
 have hs2:=hk2.size;have hM3:=(hM2.alloc (.cells #[.int .i64 (1+r1),.int .i64 0,.int .i64 0,.int .i64 0,.int .i64 0,.int .i64 0] 49)).alloc (.cells tabA 3);have hn2:=next_any mb lo lc l 7 _ hM3 (by omega) HL.out;have hG3:GB ((W2.alloc (.cells #[.int .i64 (1+r1),.int .i64 0,.int .i64 0,.int .i64 0,.int .i64 0,.int .i64 0] 49)).alloc (.cells tabA 3)) W2.heap.size 49 #[.int .i64 (1+r1),.int .i64 0,.int .i64 0,.int .i64 0,.int .i64 0,.int .i64 0]:=
  (GB.alloc _ _ _).keep (Kept.alloc (s:=fun _=>True) _ _) trivial
 have hG3':GB ((W2.alloc (.cells #[.int .i64 (1+r1),.int .i64 0,.int .i64 0,.int .i64 0,.int .i64 0,.int .i64 0] 49)).alloc (.cells tabA 3)) (W2.heap.size+1) 3 tabA:=by
  have:=GB.alloc (W2.alloc (.cells #[.int .i64 (1+r1),.int .i64 0,.int .i64 0,.int .i64 0,.int .i64 0,.int .i64 0] 49)) tabA 3
  rwa [World.size_alloc] at this
 have hk3:∀ s,Kept s W2 ((W2.alloc (.cells #[.int .i64 (1+r1),.int .i64 0,.int .i64 0,.int .i64 0,.int .i64 0,.int .i64 0] 49)).alloc (.cells tabA 3)):=fun s=>(Kept.alloc _ _).trans (Kept.alloc _ _)
 have hG2':=hG2.keep (hk3 (fun _=>True)) trivial;have hmb2:=hM2.lt;have HM2:Hid _:=hM2;obtain⟨W3,hW3⟩:∃ W3,(W2.alloc (.cells #[.int .i64 (1+r1),.int .i64 0,.int .i64 0,.int .i64 0,.int .i64 0,.int .i64 0] 49)).alloc (.cells tabA 3)=W3:=⟨_,rfl⟩
 rw[hW3] at hn2 hG3 hG3' hG2' hk3;unfold tabA at hW3;clear hM2 hM3 hG1 hG2 hk1;go_wp2_with fail;refine hn2.mono ?_;rintro e W4 ⟨r2,rfl,hr2,hr2',hM4,hk4⟩;clear hW3 hn2;obtain⟨rn,rfl⟩:∃ rn:Nat,r2=(rn:Int):=⟨r2.toNat,by omega⟩
 have hrn:rn<7:=by omega
 have htb:W2.heap.size≠mb:=by omega
 have hG4:=hG3.keep hk4 htb;have hG4':=hG3'.keep hk4 (show W2.heap.size+1≠mb by omega);have hGr:=hG2'.keep hk4 hra;have hkW4:Kept (fun b=>b≠mb) W W4:=(hkW2.trans (hk3 _)).trans hk4;obtain⟨x,hx,hx0,hx1⟩:=tabA_at hrn;have hcx:=(hG4'.cell rn).trans hx;have hct:=hG4.cell 1;have hcf:=hG4.frozen 1;simp only[List.getElem?_toArray,List.getElem?_cons_succ,List.getElem?_cons_zero] at hct;have hG5:GB (W4.setCell (aD W2.heap.size 1) (.int .i64 x)) W2.heap.size 49 (⟨1+r1,x,0,0,0,0⟩:TableD).vals:=hG4.set 1 _;have hM5:=hM4.set (i:=1) (.int .i64 x) htb (fun a ha=>by have:=HLO.out a ha; have:=hkW2.size; omega);have hk5:Kept (fun b=>b≠mb) W (W4.setCell (aD W2.heap.size 1) (.int .i64 x)):=hkW4.set_new hkW2.size _;have hGr5:GB (W4.setCell (aD W2.heap.size 1) (.int .i64 x)) W.heap.size 49 tz.vals:=hGr.keep (s:=fun b=>b≠W2.heap.size) (Kept.setCell _ _ _ (fun h=>h rfl)) (by have:=HS1.out; omega);have HG5:Hid _:=hG5;have HM5:Hid _:=hM5;have HK5:Hid _:=hk5;have HGr5:Hid _:=hGr5;have HKW2:Hid _:=hkW2;clear hG5 hM5 hk5 hGr5 hkW2 hkW4 hG4' hGr hG2' hG3 hG3' hM4 hk4 hk3 hk2;go_wp2;go_loopw [4] (fun i wr=>∃ (k:Nat) (t:TableD),i=.int .i64 k/\(k:Int)<=t.cols/\TabOk t k/\GB wr W2.heap.size 49 t.vals/\GB wr W.heap.size 49 tz.vals/\MakerAt mb lo lc l wr/\Kept (fun b=>b≠mb) W wr) (fun i wr=>10-(intOf i).toNat)
 case atStart=>exact⟨0,⟨1+r1,x,0,0,0,0⟩,rfl,by show (0:Int)<=1+r1; omega,⟨by show 1<=1+r1; omega,by show 1+r1<=3; omega,hx0,hx1,fun m h=>by omega⟩,HG5.out,HGr5.out,HM5.out,HK5.out⟩
 case round=>
  obtain⟨k,⟨cols,rows,k0,k1,k2,k3⟩,rfl,hkc,hT,hGt,hGr,hMr,hKr⟩:=hrel;have c0:=hGt.cell 0;have hcz:(⟨cols,rows,k0,k1,k2,k3⟩:TableD).vals[0]? = some (.int .i64 cols):=rfl;rw[hcz] at c0;simp only at hkc;have hc3:=hT.c3;simp only at hc3;clear hcz hG4 hct hcf hcx;by_cases hlt:(k:Int)<cols
  ·have hkk:k=0∨k=1∨k=2:=by omega
   have hM6:=hMr.alloc (.cells kindA 3);have hn3:=next_any mb lo lc l 5 _ hM6 (by omega) HL.out;have hG6:=hGt.keep (Kept.alloc (s:=fun _=>True) wr (.cells kindA 3)) trivial;have hG6':=GB.alloc wr kindA 3;have hG6r:=hGr.keep (Kept.alloc (s:=fun _=>True) wr (.cells kindA 3)) trivial;have hk6:=hKr.trans (Kept.alloc (s:=fun b=>b≠mb) wr (.cells kindA 3));have hmr:=hMr.lt;obtain⟨W6,hW6⟩:∃ W6,wr.alloc (.cells kindA 3)=W6:=⟨_,rfl⟩
   rw[hW6] at hn3 hG6 hG6' hG6r hk6;unfold kindA at hW6;clear hM6;go_wp2_with fail;refine hn3.mono ?_;rintro e W7 ⟨r3,rfl,hr3,hr3',hM7,hk7⟩;clear hW6 hn3 hMr;obtain⟨rn3,rfl⟩:∃ rn:Nat,r3=(rn:Int):=⟨r3.toNat,by omega⟩
   have hrn3:rn3<5:=by omega
   obtain⟨y,hy,hy0,hy1⟩:=kindA_at hrn3;have hG7:=hG6.keep hk7 htb;have hcy:=((hG6'.keep hk7 (show wr.heap.size≠mb by omega)).cell rn3).trans hy;have hG7r:=hG6r.keep hk7 hra;have hk7':=hk6.trans hk7;have d0:=hG7.cell 2;have d1:=hG7.cell 3;have d2:=hG7.cell 4;have e0:=hG7.frozen 2;have e1:=hG7.frozen 3;have e2:=hG7.frozen 4;have hM8:=fun i=>hM7.set (G:=W2.heap.size) (i:=i) (.int .i64 y) htb (fun a ha=>by have:=HLO.out a ha; have:=HKW2.out.size; omega)
   have hk8:=fun i=>hk7'.set_new (G:=W2.heap.size) (i:=i) HKW2.out.size (.int .i64 y)
   have hG8r:=fun i=>hG7r.keep (s:=fun b=>b≠W2.heap.size) (Kept.setCell W7 (aD W2.heap.size i) (.int .i64 y) (fun h=>h rfl)) (by have:=HS1.out; omega)
   have hG8:=fun i=>hG7.set i (.int .i64 y)
   have f0:(⟨cols,rows,k0,k1,k2,k3⟩:TableD).vals[2]? = some (.int .i64 k0):=rfl;have f1:(⟨cols,rows,k0,k1,k2,k3⟩:TableD).vals[3]? = some (.int .i64 k1):=rfl;have f2:(⟨cols,rows,k0,k1,k2,k3⟩:TableD).vals[4]? = some (.int .i64 k2):=rfl;rw[f0] at d0;rw[f1] at d1;rw[f2] at d2;have HG8:Hid _:=hG8;have HG8r:Hid _:=hG8r;have HM8:Hid _:=hM8;have HK8:Hid _:=hk8;have HT:Hid _:=hT;clear hG8 hG8r hM8 hk8 hT f0 f1 f2 hG7 hG7r hk7' hM7 hk7 hk6 hG6 hG6' hG6r hGt hGr hKr c0;rcases hkk with rfl | rfl | rfl
   ·go_wp2;go_roundw
    case rel=>exact⟨1,⟨cols,rows,y,k1,k2,k3⟩,rfl,by show (1:Int)<=cols; omega,⟨HT.out.c1,HT.out.c3,HT.out.r0,HT.out.r1,fun m hm=>by match m,hm with | 0,_=>exact⟨hy0,hy1⟩⟩,HG8.out 2,HG8r.out 2,HM8.out 2,HK8.out 2⟩
    case measure=>simp[intOf]
   ·go_wp2;go_roundw
    case rel=>exact⟨2,⟨cols,rows,k0,y,k2,k3⟩,rfl,by show (2:Int)<=cols; omega,⟨HT.out.c1,HT.out.c3,HT.out.r0,HT.out.r1,fun m hm=>by
     match m,hm with
     | 0,_ => exact HT.out.kd 0 (by omega)
     | 1,_ => exact⟨hy0,hy1⟩⟩,HG8.out 3,HG8r.out 3,HM8.out 3,HK8.out 3⟩
    case measure=>simp[intOf]
   ·go_wp2;go_roundw
    case rel=>exact⟨3,⟨cols,rows,k0,k1,y,k3⟩,rfl,by show (3:Int)<=cols; omega,⟨HT.out.c1,HT.out.c3,HT.out.r0,HT.out.r1,fun m hm=>by
     match m,hm with
     | 0,_ => exact HT.out.kd 0 (by omega)
     | 1,_ => exact HT.out.kd 1 (by omega)
     | 2,_ => exact⟨hy0,hy1⟩⟩,HG8.out 4,HG8r.out 4,HM8.out 4,HK8.out 4⟩
    case measure=>simp[intOf]
  ·have hce:cols=(k:Int):=by omega
   have g0:=hGt.cell 0;have g1:=hGt.cell 1;have g2:=hGt.cell 2;have g3:=hGt.cell 3;have g4:=hGt.cell 4;have g5:=hGt.cell 5;have r0:=hGr.cell 0;have r1c:=hGr.cell 1;have r2c:=hGr.cell 2;have r3c:=hGr.cell 3;have r4c:=hGr.cell 4;have r5c:=hGr.cell 5;have z0:=hGr.frozen 0;have z1:=hGr.frozen 1;have z2:=hGr.frozen 2;have z3:=hGr.frozen 3;have z4:=hGr.frozen 4;have z5:=hGr.frozen 5;simp only[TableD.vals,tz,List.getElem?_toArray,List.getElem?_cons_succ,List.getElem?_cons_zero] at g0 g1 g2 g3 g4 g5 r0 r1c r2c r3c r4c r5c;have HT:Hid _:=hT;have HMr:Hid _:=hMr;have HKr:Hid _:=hKr;have HCE:Hid _:=hce;have HGr:Hid _:=hGr;clear hGt hGr hT hMr hKr hce c0;have hGf:GB ((((((wr.setCell (aD W.heap.size 0) (.int .i64 cols)).setCell (aD W.heap.size 1) (.int .i64 rows)).setCell (aD W.heap.size 2) (.int .i64 k0)).setCell (aD W.heap.size 3) (.int .i64 k1)).setCell (aD W.heap.size 4) (.int .i64 k2)).setCell (aD W.heap.size 5) (.int .i64 k3)) W.heap.size 49 (⟨cols,rows,k0,k1,k2,k3⟩:TableD).vals:=
    (((((GB.set HGr.out 0 _).set 1 _).set 2 _).set 3 _).set 4 _).set 5 _
   have HGf:Hid _:=hGf;clear hGf;go_wp2;refine bodyPost_ret (results_cell_row rfl _ _ W.heap.size 49 (⟨cols,rows,k0,k1,k2,k3⟩:TableD).vals (0,0) _ rfl HGf.out Tryz.underlying49 rfl (by kernel_rfl)) rfl ?_;have hlo':∀ a,lo=some a->a.block≠W.heap.size:=fun a ha=>by have:=HLO.out a ha; omega
   refine⟨⟨cols,rows,k0,k1,k2,k3⟩,rfl,?_,?_,?_⟩
   ·have:cols.toNat=k:=by have:=HCE.out; omega
    show TabOk _ cols.toNat
    rw[this];exact HT.out
   ·exact (((((MakerAt.set HMr.out _ hra hlo').set _ hra hlo').set _ hra hlo').set _ hra hlo').set _ hra hlo').set _ hra hlo'
   ·exact (((((Kept.set_new HKr.out (Nat.le_refl _) _).set_new (Nat.le_refl _) _).set_new (Nat.le_refl _) _).set_new (Nat.le_refl _) _).set_new (Nat.le_refl _) _).set_new (Nat.le_refl _) _
end Go.Proofs.YtlpbelhfpoilpabGreatDoor
namespace Go.Scout
open Go.RowKit
def CondD.arr (c:CondD):Array Value:=#[.bool c.not,.int .i64 c.op,.int .i64 c.left,.bool c.const,.int .i64 c.right]
structure Five (W:World) (G:Nat) (c:CondD):Prop where
 c0:W.cell? (aD G 0)=some (.bool c.not)
 c1:W.cell? (aD G 1)=some (.int .i64 c.op)
 c2:W.cell? (aD G 2)=some (.int .i64 c.left)
 c3:W.cell? (aD G 3)=some (.bool c.const)
 c4:W.cell? (aD G 4)=some (.int .i64 c.right)
 f0:W.frozen? (aD G 0)=false
 f1:W.frozen? (aD G 1)=false
 f2:W.frozen? (aD G 2)=false
 f3:W.frozen? (aD G 3)=false
 f4:W.frozen? (aD G 4)=false
theorem GB.five {W:World} {G:Nat} {t:TypeId} {c:CondD} (h:GB W G t c.arr):Five W G c:=
 ⟨h.cell 0,h.cell 1,h.cell 2,h.cell 3,h.cell 4,h.frozen 0,h.frozen 1,h.frozen 2,h.frozen 3,h.frozen 4⟩
end Go.Scout
namespace Go.Proofs.YtlpbelhfpoilpabGreatDoor
open Go.RowKit Go.Scout
theorem value_any (mb:Nat) (lo:Option Addr) (lc:Nat) (l:List Int) (W:World) (hm:MakerAt mb lo lc l W) (hl:∀ x∈l,-9223372036854775808<=x/\x<=9223372036854775807) :
  Calls Tryz.prog 15 #[.pointer (some (aD mb 0))] W fun e W'=>∃ v:Int,e=.returned (.int .i64 v)/\(v=1073741824∨(-1<=v/\v<=3))/\MakerAt mb lo lc l W'/\Kept (fun b=>b≠mb) W W':=by
 have hn1:=next_any mb lo lc l 6 W hm (by omega) hl;go_enter Tryz.func15,Tryz.ntmps15;go_wp2_with fail;refine hn1.mono ?_;rintro e W2 ⟨r1,rfl,hr1,hr1',hM2,hk2⟩;clear hn1;by_cases h5:r1=5
 ·have h5':(r1==5)=true:=by simpa using h5
  clear h5;go_wp2;go_ret;exact⟨_,rfl,.inl rfl,hM2,hk2⟩
 ·have h5':(r1==5)=false:=by simpa using h5
  have hw:wrap64 (r1-1)=r1-1:=by unfold wrap64; omega
  have HR:Hid (-1<=r1-1/\r1-1<=3):=show _/\_ by omega
  clear h5;go_wp2;go_ret;exact⟨_,rfl,.inr HR.out,hM2,hk2⟩
theorem cond_any (mb:Nat) (lo:Option Addr) (lc:Nat) (l:List Int) (n:Int) (W:World) (hm:MakerAt mb lo lc l W) (hl:∀ x∈l,-9223372036854775808<=x/\x<=9223372036854775807) (hlo:∀ a,lo=some a->a.block<W.heap.size) (hn:0<n) :
  Calls Tryz.prog 23 #[.pointer (some (aD mb 0)),.int .i64 n] W fun e W'=>∃ c:CondD,e=.returned (.agg c.arr)/\condB c n=true/\MakerAt mb lo lc l W'/\Kept (fun b=>b≠mb) W W':=by
 have hmb:=hm.lt;have hM1:=hm.alloc (.cells cz.arr 63);have hG1:=GB.alloc W cz.arr 63;have hk1:Kept (fun b=>b≠mb) W (W.alloc (.cells cz.arr 63)):=Kept.alloc _ _;obtain⟨W1,hW1⟩:∃ W1,W.alloc (.cells cz.arr 63)=W1:=⟨_,rfl⟩
 rw[hW1] at hM1 hG1 hk1;have HS1:Hid (W1.heap.size=W.heap.size+1):=show _=_ by rw[<- hW1]; simp
 have hn1:=next_any mb lo lc l 5 W1 hM1 (by omega) hl;have hW1':W.alloc (.cells #[.bool false,.int .i64 0,.int .i64 0,.bool false,.int .i64 0] 63)=W1:=hW1;have HL:Hid _:=hl;have HLO:Hid _:=hlo;have hra:W.heap.size≠mb:=by omega
 clear hl hlo hM1 hm hW1;go_enter Tryz.func23,Tryz.ntmps23;go_wp2_with fail;refine hn1.mono ?_;rintro e W2 ⟨r1,rfl,hr1,hr1',hM2,hk2⟩;clear hW1' hn1;have hn2:=next_any mb lo lc l n W2 hM2 hn HL.out;obtain⟨nt,hnt⟩:∃ nt,(r1==1)=nt:=⟨_,rfl⟩
 go_wp2_with fail;refine hn2.mono ?_;rintro e W3 ⟨lf,rfl,hlf,hlf',hM3,hk3⟩;clear hn2;have hs2:=hk2.size;have hs3:=hk3.size;have hkW3:Kept (fun b=>b≠mb) W W3:=(hk1.trans hk2).trans hk3;have hGr3:GB W3 W.heap.size 63 cz.arr:=(hG1.keep hk2 hra).keep hk3 hra;have hM4:=hM3.alloc (.cells (⟨nt,0,lf,false,0⟩:CondD).arr 63);have hGc4:=GB.alloc W3 (⟨nt,0,lf,false,0⟩:CondD).arr 63;have hGr4:=hGr3.keep (Kept.alloc (s:=fun _=>True) W3 (.cells (⟨nt,0,lf,false,0⟩:CondD).arr 63)) trivial;have hk4:=hkW3.trans (Kept.alloc (s:=fun b=>b≠mb) W3 (.cells (⟨nt,0,lf,false,0⟩:CondD).arr 63));obtain⟨W4,hW4⟩:∃ W4,W3.alloc (.cells (⟨nt,0,lf,false,0⟩:CondD).arr 63)=W4:=⟨_,rfl⟩
 rw[hW4] at hM4 hGc4 hGr4 hk4;have HS4:Hid (W4.heap.size=W3.heap.size+1):=show _=_ by rw[<- hW4]; simp
 have hn3:=next_any mb lo lc l 6 W4 hM4 (by omega) HL.out;have hW4':W3.alloc (.cells #[.bool nt,.int .i64 0,.int .i64 lf,.bool false,.int .i64 0] 63)=W4:=hW4;have hcb:W3.heap.size≠mb:=by have:=hM3.lt; omega
 have HCB:Hid (W.heap.size<=W3.heap.size/\W.heap.size≠W3.heap.size):=show _/\_ by have:=HS1.out; omega
 clear hM4 hM3 hM2 hGr3 hkW3 hG1 hk1 hk2 hk3 hW4 hs2 hs3;have HW4:Hid _:=hW4';clear hW4';go_wp2_with fail;rw[HW4.out];refine hn3.mono ?_;rintro e W5 ⟨r3,rfl,hr3,hr3',hM5,hk5⟩;clear HW4 hn3;have hGc5:=hGc4.keep hk5 hcb;have hGr5:=hGr4.keep hk5 hra;have hk5':=hk4.trans hk5;have hlo3:∀ a,lo=some a->a.block≠W3.heap.size:=fun a ha=>by have:=HLO.out a ha; have:=HCB.out; omega
 have hlo0:∀ a,lo=some a->a.block≠W.heap.size:=fun a ha=>by have:=HLO.out a ha; omega
 have HLO3:Hid _:=hlo3;have HLO0:Hid _:=hlo0;clear hGc4 hGr4 hk4 hk5 hlo3 hlo0;have FIN:Hid (∀ (Wx:World) (c:CondD),GB Wx W.heap.size 63 cz.arr->MakerAt mb lo lc l Wx->Kept (fun b=>b≠mb) W Wx->
   GB (((((Wx.setCell (aD W.heap.size 0) (.bool c.not)).setCell (aD W.heap.size 1) (.int .i64 c.op)).setCell (aD W.heap.size 2) (.int .i64 c.left)).setCell (aD W.heap.size 3) (.bool c.const)).setCell (aD W.heap.size 4) (.int .i64 c.right)) W.heap.size 63 c.arr/\
   MakerAt mb lo lc l (((((Wx.setCell (aD W.heap.size 0) (.bool c.not)).setCell (aD W.heap.size 1) (.int .i64 c.op)).setCell (aD W.heap.size 2) (.int .i64 c.left)).setCell (aD W.heap.size 3) (.bool c.const)).setCell (aD W.heap.size 4) (.int .i64 c.right))/\
   Kept (fun b=>b≠mb) W (((((Wx.setCell (aD W.heap.size 0) (.bool c.not)).setCell (aD W.heap.size 1) (.int .i64 c.op)).setCell (aD W.heap.size 2) (.int .i64 c.left)).setCell (aD W.heap.size 3) (.bool c.const)).setCell (aD W.heap.size 4) (.int .i64 c.right))):=fun Wx c hG hM hK=>
  ⟨((((hG.set 0 _).set 1 _).set 2 _).set 3 _).set 4 _,((((hM.set _ hra HLO0.out).set _ hra HLO0.out).set _ hra HLO0.out).set _ hra HLO0.out).set _ hra HLO0.out,
   ((((hK.set_new (Nat.le_refl _) _).set_new (Nat.le_refl _) _).set_new (Nat.le_refl _) _).set_new (Nat.le_refl _) _).set_new (Nat.le_refl _) _⟩
 have h03:r3=0∨r3=1∨r3=2∨r3=3∨r3=4∨r3=5:=by omega
 rcases h03 with rfl | rfl | rfl | rfl | rfl | rfl
 ·have hn4:=next_any mb lo lc l n W5 hM5 hn HL.out;go_wp2_with fail;refine hn4.mono ?_;rintro e W6 ⟨rt,rfl,hrt,hrt',hM6,hk6⟩;clear hn4;have g6:=hGc5.keep hk6 hcb;have q4:=(GB.five g6).c4;have p4:=(GB.five g6).f4;have hGc7:GB (W6.setCell (aD W3.heap.size 4) (.int .i64 rt)) W3.heap.size 63 (⟨nt,0,lf,false,rt⟩:CondD).arr:=g6.set 4 _;have hGr7:GB (W6.setCell (aD W3.heap.size 4) (.int .i64 rt)) W.heap.size 63 cz.arr:=(hGr5.keep hk6 hra).keep (s:=fun b=>b≠W3.heap.size) (Kept.setCell _ _ _ (fun h=>h rfl)) HCB.out.2;have hM7:=hM6.set (G:=W3.heap.size) (i:=4) (.int .i64 rt) hcb HLO3.out;have hk7:=(hk5'.trans hk6).set_new (G:=W3.heap.size) (i:=4) HCB.out.1 (.int .i64 rt);have HB:Hid (condB ⟨nt,0,lf,false,rt⟩ n=true):=show _=_ by simp[condB]; try omega
  simp only at q4;clear hGc5 hGr5 hM5 hk5' g6 hM6 hk6;have hfin:=FIN.out _ (⟨nt,0,lf,false,rt⟩:CondD) hGr7 hM7 hk7;have HF:Hid _:=hfin;have v:=GB.five hGc7;have v0:=v.c0;have v1:=v.c1;have v2:=v.c2;have v3:=v.c3;have v4:=v.c4;have u:=GB.five hGr7;have u0:=u.c0;have u1:=u.c1;have u2:=u.c2;have u3:=u.c3;have u4:=u.c4;have z0:=u.f0;have z1:=u.f1;have z2:=u.f2;have z3:=u.f3;have z4:=u.f4;simp only[cz] at v0 v1 v2 v3 v4 u0 u1 u2 u3 u4;clear hfin v u FIN;go_wp2;refine bodyPost_ret (results_cell_row rfl _ _ W.heap.size 63 (⟨nt,0,lf,false,rt⟩:CondD).arr (0,0) _ rfl HF.out.1 Tryz.underlying63 rfl (by kernel_rfl)) rfl ?_;exact⟨(⟨nt,0,lf,false,rt⟩:CondD),rfl,HB.out,HF.out.2.1,HF.out.2.2⟩
 ·have hn4:=next_any mb lo lc l n W5 hM5 hn HL.out;go_wp2_with fail;refine hn4.mono ?_;rintro e W6 ⟨rt,rfl,hrt,hrt',hM6,hk6⟩;clear hn4;have g6:=hGc5.keep hk6 hcb;have q4:=(GB.five g6).c4;have p4:=(GB.five g6).f4;have hGc7:GB (W6.setCell (aD W3.heap.size 4) (.int .i64 rt)) W3.heap.size 63 (⟨nt,0,lf,false,rt⟩:CondD).arr:=g6.set 4 _;have hGr7:GB (W6.setCell (aD W3.heap.size 4) (.int .i64 rt)) W.heap.size 63 cz.arr:=(hGr5.keep hk6 hra).keep (s:=fun b=>b≠W3.heap.size) (Kept.setCell _ _ _ (fun h=>h rfl)) HCB.out.2;have hM7:=hM6.set (G:=W3.heap.size) (i:=4) (.int .i64 rt) hcb HLO3.out;have hk7:=(hk5'.trans hk6).set_new (G:=W3.heap.size) (i:=4) HCB.out.1 (.int .i64 rt);have HB:Hid (condB ⟨nt,0,lf,false,rt⟩ n=true):=show _=_ by simp[condB]; try omega
  simp only at q4;clear hGc5 hGr5 hM5 hk5' g6 hM6 hk6;have hfin:=FIN.out _ (⟨nt,0,lf,false,rt⟩:CondD) hGr7 hM7 hk7;have HF:Hid _:=hfin;have v:=GB.five hGc7;have v0:=v.c0;have v1:=v.c1;have v2:=v.c2;have v3:=v.c3;have v4:=v.c4;have u:=GB.five hGr7;have u0:=u.c0;have u1:=u.c1;have u2:=u.c2;have u3:=u.c3;have u4:=u.c4;have z0:=u.f0;have z1:=u.f1;have z2:=u.f2;have z3:=u.f3;have z4:=u.f4;simp only[cz] at v0 v1 v2 v3 v4 u0 u1 u2 u3 u4;clear hfin v u FIN;go_wp2;refine bodyPost_ret (results_cell_row rfl _ _ W.heap.size 63 (⟨nt,0,lf,false,rt⟩:CondD).arr (0,0) _ rfl HF.out.1 Tryz.underlying63 rfl (by kernel_rfl)) rfl ?_;exact⟨(⟨nt,0,lf,false,rt⟩:CondD),rfl,HB.out,HF.out.2.1,HF.out.2.2⟩
 ·have hn4:=next_any mb lo lc l n W5 hM5 hn HL.out;go_wp2_with fail;refine hn4.mono ?_;rintro e W6 ⟨rt,rfl,hrt,hrt',hM6,hk6⟩;clear hn4;have g6:=hGc5.keep hk6 hcb;have q4:=(GB.five g6).c4;have p4:=(GB.five g6).f4;have hGc7:GB (W6.setCell (aD W3.heap.size 4) (.int .i64 rt)) W3.heap.size 63 (⟨nt,0,lf,false,rt⟩:CondD).arr:=g6.set 4 _;have hGr7:GB (W6.setCell (aD W3.heap.size 4) (.int .i64 rt)) W.heap.size 63 cz.arr:=(hGr5.keep hk6 hra).keep (s:=fun b=>b≠W3.heap.size) (Kept.setCell _ _ _ (fun h=>h rfl)) HCB.out.2;have hM7:=hM6.set (G:=W3.heap.size) (i:=4) (.int .i64 rt) hcb HLO3.out;have hk7:=(hk5'.trans hk6).set_new (G:=W3.heap.size) (i:=4) HCB.out.1 (.int .i64 rt);have HB:Hid (condB ⟨nt,0,lf,false,rt⟩ n=true):=show _=_ by simp[condB]; try omega
  simp only at q4;clear hGc5 hGr5 hM5 hk5' g6 hM6 hk6;have hfin:=FIN.out _ (⟨nt,0,lf,false,rt⟩:CondD) hGr7 hM7 hk7;have HF:Hid _:=hfin;have v:=GB.five hGc7;have v0:=v.c0;have v1:=v.c1;have v2:=v.c2;have v3:=v.c3;have v4:=v.c4;have u:=GB.five hGr7;have u0:=u.c0;have u1:=u.c1;have u2:=u.c2;have u3:=u.c3;have u4:=u.c4;have z0:=u.f0;have z1:=u.f1;have z2:=u.f2;have z3:=u.f3;have z4:=u.f4;simp only[cz] at v0 v1 v2 v3 v4 u0 u1 u2 u3 u4;clear hfin v u FIN;go_wp2;refine bodyPost_ret (results_cell_row rfl _ _ W.heap.size 63 (⟨nt,0,lf,false,rt⟩:CondD).arr (0,0) _ rfl HF.out.1 Tryz.underlying63 rfl (by kernel_rfl)) rfl ?_;exact⟨(⟨nt,0,lf,false,rt⟩:CondD),rfl,HB.out,HF.out.2.1,HF.out.2.2⟩
 ·have h3c:=(GB.five hGc5).c3;have h3f:=(GB.five hGc5).f3;have hGc6:GB (W5.setCell (aD W3.heap.size 3) (.bool true)) W3.heap.size 63 (⟨nt,0,lf,true,0⟩:CondD).arr:=hGc5.set 3 _;have hGr6:GB (W5.setCell (aD W3.heap.size 3) (.bool true)) W.heap.size 63 cz.arr:=hGr5.keep (s:=fun b=>b≠W3.heap.size) (Kept.setCell _ _ _ (fun h=>h rfl)) HCB.out.2;have hM6:=hM5.set (G:=W3.heap.size) (i:=3) (.bool true) hcb HLO3.out;have hk6:=hk5'.set_new (G:=W3.heap.size) (i:=3) HCB.out.1 (.bool true);have hn4:=next_any mb lo lc l 5 _ hM6 (by omega) HL.out;simp only at h3c;go_wp2_with fail;refine hn4.mono ?_;rintro e W7 ⟨rt,rfl,hrt,hrt',hM7,hk7⟩;clear hn4 hM6;have hw:wrap64 (rt-1)=rt-1:=by unfold wrap64; omega
  have g7:=hGc6.keep hk7 hcb;have q4:=(GB.five g7).c4;have p4:=(GB.five g7).f4;have hGc8:GB (W7.setCell (aD W3.heap.size 4) (.int .i64 (rt-1))) W3.heap.size 63 (⟨nt,0,lf,true,rt-1⟩:CondD).arr:=g7.set 4 _;have hGr8:GB (W7.setCell (aD W3.heap.size 4) (.int .i64 (rt-1))) W.heap.size 63 cz.arr:=(hGr6.keep hk7 hra).keep (s:=fun b=>b≠W3.heap.size) (Kept.setCell _ _ _ (fun h=>h rfl)) HCB.out.2;have hM8:=hM7.set (G:=W3.heap.size) (i:=4) (.int .i64 (rt-1)) hcb HLO3.out;have hk8:=(hk6.trans hk7).set_new (G:=W3.heap.size) (i:=4) HCB.out.1 (.int .i64 (rt-1));have HB:Hid (condB ⟨nt,0,lf,true,rt-1⟩ n=true):=show _=_ by simp[condB]; try omega
  simp only at q4;clear hGc5 hGr5 hM5 hk5' g7 hM7 hk7 hGc6 hGr6 hk6 h3c h3f;have hfin:=FIN.out _ (⟨nt,0,lf,true,(rt-1)⟩:CondD) hGr8 hM8 hk8;have HF:Hid _:=hfin;have v:=GB.five hGc8;have v0:=v.c0;have v1:=v.c1;have v2:=v.c2;have v3:=v.c3;have v4:=v.c4;have u:=GB.five hGr8;have u0:=u.c0;have u1:=u.c1;have u2:=u.c2;have u3:=u.c3;have u4:=u.c4;have z0:=u.f0;have z1:=u.f1;have z2:=u.f2;have z3:=u.f3;have z4:=u.f4;simp only[cz] at v0 v1 v2 v3 v4 u0 u1 u2 u3 u4;clear hfin v u FIN;go_wp2;refine bodyPost_ret (results_cell_row rfl _ _ W.heap.size 63 (⟨nt,0,lf,true,(rt-1)⟩:CondD).arr (0,0) _ rfl HF.out.1 Tryz.underlying63 rfl (by kernel_rfl)) rfl ?_;exact⟨(⟨nt,0,lf,true,(rt-1)⟩:CondD),rfl,HB.out,HF.out.2.1,HF.out.2.2⟩
 ·have h1c:=(GB.five hGc5).c1;have h1f:=(GB.five hGc5).f1;have hGc6:GB (W5.setCell (aD W3.heap.size 1) (.int .i64 1)) W3.heap.size 63 (⟨nt,1,lf,false,0⟩:CondD).arr:=hGc5.set 1 _;have hGr6:GB (W5.setCell (aD W3.heap.size 1) (.int .i64 1)) W.heap.size 63 cz.arr:=hGr5.keep (s:=fun b=>b≠W3.heap.size) (Kept.setCell _ _ _ (fun h=>h rfl)) HCB.out.2;have hM6:=hM5.set (G:=W3.heap.size) (i:=1) (.int .i64 1) hcb HLO3.out;have hk6:=hk5'.set_new (G:=W3.heap.size) (i:=1) HCB.out.1 (.int .i64 1);have hn4:=next_any mb lo lc l n _ hM6 hn HL.out;simp only at h1c;go_wp2_with fail;refine hn4.mono ?_;rintro e W7 ⟨rt,rfl,hrt,hrt',hM7,hk7⟩;clear hn4 hM6;have g7:=hGc6.keep hk7 hcb;have q4:=(GB.five g7).c4;have p4:=(GB.five g7).f4;have hGc8:GB (W7.setCell (aD W3.heap.size 4) (.int .i64 rt)) W3.heap.size 63 (⟨nt,1,lf,false,rt⟩:CondD).arr:=g7.set 4 _;have hGr8:GB (W7.setCell (aD W3.heap.size 4) (.int .i64 rt)) W.heap.size 63 cz.arr:=(hGr6.keep hk7 hra).keep (s:=fun b=>b≠W3.heap.size) (Kept.setCell _ _ _ (fun h=>h rfl)) HCB.out.2;have hM8:=hM7.set (G:=W3.heap.size) (i:=4) (.int .i64 rt) hcb HLO3.out;have hk8:=(hk6.trans hk7).set_new (G:=W3.heap.size) (i:=4) HCB.out.1 (.int .i64 rt);have HB:Hid (condB ⟨nt,1,lf,false,rt⟩ n=true):=show _=_ by simp[condB]; try omega
  simp only at q4;clear hGc5 hGr5 hM5 hk5' g7 hM7 hk7 hGc6 hGr6 hk6 h1c h1f;have hfin:=FIN.out _ (⟨nt,1,lf,false,rt⟩:CondD) hGr8 hM8 hk8;have HF:Hid _:=hfin;have v:=GB.five hGc8;have v0:=v.c0;have v1:=v.c1;have v2:=v.c2;have v3:=v.c3;have v4:=v.c4;have u:=GB.five hGr8;have u0:=u.c0;have u1:=u.c1;have u2:=u.c2;have u3:=u.c3;have u4:=u.c4;have z0:=u.f0;have z1:=u.f1;have z2:=u.f2;have z3:=u.f3;have z4:=u.f4;simp only[cz] at v0 v1 v2 v3 v4 u0 u1 u2 u3 u4;clear hfin v u FIN;go_wp2;refine bodyPost_ret (results_cell_row rfl _ _ W.heap.size 63 (⟨nt,1,lf,false,rt⟩:CondD).arr (0,0) _ rfl HF.out.1 Tryz.underlying63 rfl (by kernel_rfl)) rfl ?_;exact⟨(⟨nt,1,lf,false,rt⟩:CondD),rfl,HB.out,HF.out.2.1,HF.out.2.2⟩
 ·have h1c:=(GB.five hGc5).c1;have h1f:=(GB.five hGc5).f1;have hGc6:GB (W5.setCell (aD W3.heap.size 1) (.int .i64 2)) W3.heap.size 63 (⟨nt,2,lf,false,0⟩:CondD).arr:=hGc5.set 1 _;have hGr6:GB (W5.setCell (aD W3.heap.size 1) (.int .i64 2)) W.heap.size 63 cz.arr:=hGr5.keep (s:=fun b=>b≠W3.heap.size) (Kept.setCell _ _ _ (fun h=>h rfl)) HCB.out.2;have hM6:=hM5.set (G:=W3.heap.size) (i:=1) (.int .i64 2) hcb HLO3.out;have hk6:=hk5'.set_new (G:=W3.heap.size) (i:=1) HCB.out.1 (.int .i64 2);have HB:Hid (condB ⟨nt,2,lf,false,0⟩ n=true):=show _=_ by simp[condB]; try omega
  simp only at h1c;clear hGc5 hGr5 hM5 hk5';have hfin:=FIN.out _ (⟨nt,2,lf,false,0⟩:CondD) hGr6 hM6 hk6;have HF:Hid _:=hfin;have v:=GB.five hGc6;have v0:=v.c0;have v1:=v.c1;have v2:=v.c2;have v3:=v.c3;have v4:=v.c4;have u:=GB.five hGr6;have u0:=u.c0;have u1:=u.c1;have u2:=u.c2;have u3:=u.c3;have u4:=u.c4;have z0:=u.f0;have z1:=u.f1;have z2:=u.f2;have z3:=u.f3;have z4:=u.f4;simp only[cz] at v0 v1 v2 v3 v4 u0 u1 u2 u3 u4;clear hfin v u FIN;go_wp2;refine bodyPost_ret (results_cell_row rfl _ _ W.heap.size 63 (⟨nt,2,lf,false,0⟩:CondD).arr (0,0) _ rfl HF.out.1 Tryz.underlying63 rfl (by kernel_rfl)) rfl ?_;exact⟨(⟨nt,2,lf,false,0⟩:CondD),rfl,HB.out,HF.out.2.1,HF.out.2.2⟩
end Go.Proofs.YtlpbelhfpoilpabGreatDoor
namespace Go.Scout
open Go.RowKit
theorem allB_app {xs:List Int} {n p:Int} (h:allB xs n=true) (h0:0<=p) (h1:p<n):allB (xs++[p]) n=true:=by
 unfold allB at *;rw[List.all_append,h];simp[h0,h1]
theorem any_succ {xs:List Int} {p:Int} {k:Nat} (hk:k<xs.length):((xs.take (k+1)).any fun x=>x==p)=(((xs.take k).any fun x=>x==p) || (xs.getD k 0==p)):=by
 rw[List.take_succ_eq_append_getElem hk,List.any_append];simp[List.getD,hk]
theorem apartB_app {xs:List Int} {p:Int} (h:apartB xs=true) (hp:(xs.any fun x=>x==p)=false):apartB (xs++[p])=true:=by
 unfold apartB at *;rw[decide_eq_true_eq] at *;intro i hi j hj;rw[List.length_append,List.length_singleton] at hi;have hg:∀ m,m<xs.length->(xs++[p]).getD m 0=xs.getD m 0:=fun m hm=>by simp[List.getD,List.getElem?_append,hm]
 by_cases hl:i<xs.length
 ·rw[hg i hl,hg j (by omega)];exact h i hl j hj
 ·have hi':i=xs.length:=by omega
  subst hi';rw[hg j hj];have hl2:(xs++[p]).getD xs.length 0=p:=by simp[List.getD]
  rw[hl2];intro e;rw[List.any_eq_false] at hp;have hm:xs.getD j 0∈xs:=by simp[List.getD,hj]
  exact hp _ hm (by rw[<- e]; simp)
theorem MakerAt.grown {mb:Nat} {lo:Option Addr} {lc:Nat} {l:List Int} {A B:World} (h:MakerAt mb lo lc l A) {row:Option Nat} (hg:A.grownBy B row) (h1:row≠some mb) (h2:∀ a,lo=some a->row≠some a.block):MakerAt mb lo lc l B:=by
 have hk:Kept (fun b=>row≠some b) A B:=Kept.grown hg (fun r e h=>h e);obtain⟨k,hk1,hk2⟩:=h.num;exact⟨⟨k,hk1,cell_keep hk2 hk h1⟩,cell_keep h.lst hk h1,(World.frozen?_of_block (a:=(aD mb 1)) (hk.block mb h.lt h1)).trans h.thaw,⟨h.ints.1,h.ints.2.keep fun a ha hlt=>hk.block _ hlt (h2 a ha)⟩,h.off⟩
end Go.Scout
namespace Go.Proofs.YtlpbelhfpoilpabGreatDoor
open Go.RowKit Go.Scout
theorem places_any (mb:Nat) (lo:Option Addr) (lc:Nat) (l:List Int) (n:Int) (most:Nat) (W:World) (hm:MakerAt mb lo lc l W) (hl:∀ x∈l,-9223372036854775808<=x/\x<=9223372036854775807) (hlo:∀ a,lo=some a->a.block<W.heap.size) (hn:0<n) (hmo:most<=100) :
  Calls Tryz.prog 24 #[.pointer (some (aD mb 0)),.int .i64 n,.int .i64 most] W fun e W'=>∃ (v:Value) (xs:List Int),e=.returned v/\W'.ownsRow W.heap.size 3 1 v xs.length (xs.map (Value.int .i64))/\allB xs n=true/\apartB xs=true/\xs.length<=most/\MakerAt mb lo lc l W'/\Kept (fun b=>b≠mb) W W':=by
 obtain⟨i0,hi,hz0,hz1,hz2⟩:=info_parts Tryz.infoInt;have hmb:=hm.lt;have hn1:=next_any mb lo lc l ((most:Int)+1) W hm (by omega) hl;have hw1:wrap64 ((most:Int)+1)=(most:Int)+1:=by unfold wrap64; omega
 have HL:Hid _:=hl;have HLO:Hid _:=hlo;clear hl hlo hm;go_enter Tryz.func24,Tryz.ntmps24;go_wp2_with fail;refine hn1.mono ?_;rintro e W2 ⟨r1,rfl,hr1,hr1',hM2,hk2⟩;obtain⟨k1,rfl⟩:∃ k:Nat,r1=(k:Int):=⟨r1.toNat,by omega⟩
 clear hn1 hw1;go_wp2;go_loopw [7,8] (fun v i wr=>∃ (k:Nat) (xs:List Int),i=.int .i64 k/\xs.length+k<=most/\wr.ownsRow W.heap.size 3 1 v xs.length (xs.map (Value.int .i64))/\Hid (allB xs n=true/\apartB xs=true)/\MakerAt mb lo lc l wr/\Kept (fun b=>b≠mb) W wr) (fun _ i _=>(intOf i).toNat)
 case atStart=>exact⟨k1,[],rfl,by simp; omega,World.ownsRow_nil _ _ _ _,⟨rfl,rfl⟩,hM2,hk2⟩
 case round=>
  obtain⟨k,xs,rfl,hkm,hown,hok,hM,hK⟩:=hrel;clear hM2 hk2;by_cases h0:0<k
  ·have hgt:((k:Int) > 0):=by omega
   have hn2:=next_any mb lo lc l n wr hM hn HL.out;go_wp2_with fail;refine hn2.mono ?_;rintro e W3 ⟨p,rfl,hp0,hp1,hM3,hk3⟩;clear hn2;have hown3:=ownsRow_keep hown hk3 (fun g hg=>by have:=(ownsRow_lt hown hg).1; omega);have hk3':=hK.trans hk3;obtain⟨iv,hiv,hivx,hivat,-⟩:=rowEl_of_own hown3 (by omega);obtain⟨iad,icap,ixs⟩:=iv;simp only at hivx;subst hivx;unfold IntsV.val at hiv;simp only at hiv;subst hiv;have hints:=hivat.1;have HI:Hid _:=hints;clear hown hM hK hivat hints;go_wp2;go_loopw [10,11] (fun tw i ws=>∃ (m:Nat),m<=ixs.length/\i=.int .i64 m/\tw=.bool ((ixs.take m).any fun x=>x==p)/\W3=ws) (fun _ i _=>ixs.length-(intOf i).toNat)
   case atStart=>exact⟨0,Nat.zero_le _,rfl,rfl,rfl⟩
   case round=>
    obtain⟨m,hm,rfl,rfl,rfl⟩:=hrel;by_cases hml:m<ixs.length
    ·obtain⟨b,off,rfl,hcs⟩:=HI.out.get hml;have hcm:=hcs m hml;have HS:Hid _:=any_succ (p:=p) hml;generalize ixs.getD m 0=y at *;generalize ((ixs.take m).any fun x=>x==p)=tw at *;clear hcs
     cases tw with
     | true =>
      go_wp2;go_roundw
      case rel=>exact⟨m+1,by omega,by go_num,by rw[HS.out]; rfl,trivial⟩
      case measure=>simp[intOf]; omega
     | false =>
      go_wp2;go_roundw
      case rel=>exact⟨m+1,by omega,by go_num,by rw[HS.out]; simp,trivial⟩
      case measure=>simp[intOf]; omega
    ·have hmm:m=ixs.length:=by omega
     subst hmm;rw[List.take_length];have hsz:=hk3'.size;have HM3:Hid _:=hM3
     cases htw:(ixs.any fun x=>x==p) with
     | true =>
      have hw2:wrap64 (((k:Int))-1)=((k-1:Nat):Int):=by unfold wrap64; omega
      have HW2:Hid _:=hw2;have HO3:Hid _:=hown3;clear hw2 hown3;go_wp2;go_roundw
      case rel=>exact⟨k-1,ixs,congrArg (Value.int .i64) (show _=((k-1:Nat):Int) by omega),by omega,HO3.out,hok,HM3.out,hk3'⟩
      case measure=>simp[intOf]; omega
     | false =>
      have HO3:Hid _:=hown3;go_wp2_with (first | (at_builtin; refine wpList_append_own _ rfl _ _ 22 rfl W.heap.size 3 i0 (.int .i64 0) 1 8 Tryz.underlying22 hi hz0 hz1 hz2 rfl (by decide) _ _ _ rfl (hown3.alloc _) (aD W3.heap.size 0) 1 1 [.int .i64 p] rfl rfl ?q1 ?q2 ?q3 ?q4 ?q5 ?_))
      case q1=>
       intro j u hj
       match j,hj with
       | 0,hj => simp at hj; subst hj; simp[Addr.add]
      case q2=>intro u hu; simp at hu; subst hu; rfl
      case q3=>unfold maxLen; omega
      case q4=>omega
      case q5=>simp; omega
      intro v' w1 hown1 hgrow1 _;have hob:∀ g,(Value.slice iad ixs.length icap).ownBlock=some g->W.heap.size<=g:=fun g hg=>(ownsRow_lt HO3.out hg).1
      have hMa:=(MakerAt.alloc HM3.out (.cells #[.int .i64 p] 3)).grown hgrow1 (fun e=>by have:=hob _ e; omega) (fun a ha e=>by have:=hob _ e; have:=HLO.out a ha; omega);have hKa:Kept (fun b=>b≠mb) W w1:=by
       have h1:Kept (fun b=>b≠mb) W (W3.alloc (.cells #[.int .i64 p] 3)):=hk3'.trans (Kept.alloc _ _);exact ((h1.mono (t:=fun b=>b≠mb/\b<W.heap.size) (fun b _ h=>h.1)).trans (Kept.grown hgrow1 (fun r e h=>by have:=hob r e; have:=h.2; omega))).mono (fun b hb h=>⟨h,hb⟩)
      have HO1:Hid _:=hown1;have HMa:Hid _:=hMa;have HKa:Hid _:=hKa;clear hown1 hgrow1 hown3 hMa hKa;go_wp2;go_roundw
      case rel=>exact⟨k-1,ixs++[p],congrArg (Value.int .i64) (show _=((k-1:Nat):Int) by omega),by rw[List.length_append,List.length_singleton]; omega,by rw[List.length_append,List.map_append]; exact HO1.out,⟨allB_app hok.out.1 hp0 hp1,apartB_app hok.out.2 htw⟩,HMa.out,HKa.out⟩
      case measure=>simp[intOf]; omega
  ·have hk0:k=0:=by omega
   subst hk0;go_wp2;go_ret;exact⟨_,xs,rfl,hown,hok.out.1,hok.out.2,by omega,hM,hK⟩
end Go.Proofs.YtlpbelhfpoilpabGreatDoor
namespace Go.Scout
open Go.RowKit
theorem MakerAt.keepN {mb:Nat} {lo:Option Addr} {lc:Nat} {l:List Int} {A B:World} {s:Nat->Prop} (h:MakerAt mb lo lc l A) (hk:Kept s A B) (h1:s mb) (h2:∀ a,lo=some a->s a.block):MakerAt mb lo lc l B:=by
 obtain⟨k,hk1,hk2⟩:=h.num;exact⟨⟨k,hk1,cell_keep hk2 hk h1⟩,cell_keep h.lst hk h1,(World.frozen?_of_block (a:=(aD mb 1)) (hk.block mb h.lt h1)).trans h.thaw,⟨h.ints.1,h.ints.2.keep fun a ha hlt=>hk.block _ hlt (h2 a ha)⟩,h.off⟩
def caseA (cv:Value) (q:QueryV) (dv:Value):Array Value:=#[cv,q.src.val,.slice q.wad q.wh.length q.wcap,.bool q.group,q.keys.val,q.sums.val,q.sel.val,q.ord.val,dv]
end Go.Scout
namespace Go.Proofs.YtlpbelhfpoilpabGreatDoor
open Go.RowKit Go.Scout
theorem keepCols_any (co:Option Addr) (cc:Nat) (ts:List TableD) (q:QueryV) (dv:Value) (hdv:∃ a m c,dv=.slice a m c) (w:World) (hx:TablesAt w co ts) (hc:catB ts=true) (hq:q.src.At w) (h5:q.src.xs.length<=5) (ha:allB q.src.xs ts.length=true) :
  Calls Tryz.prog 22 #[.agg (caseA (.slice co ts.length cc) q dv)] w fun e w'=>e=.returned (.int .i64 (widthN ts q.src.xs))/\Below w.heap.size w w':=by
 obtain⟨da,dm,dc,rfl⟩:=hdv;obtain⟨⟨sad,scap,xs⟩,wad,wcap,wh,group,keys,sums,sel,ord⟩:=q;unfold IntsV.At at hq;simp only at h5 ha hq;unfold caseA IntsV.val;simp only;have hl:=hx.1;have HC:Hid (catB ts=true):=hc;have HA:Hid (allB xs ts.length=true):=ha;have hb:=bQ2 w (.cells #[.slice co ts.length cc,.slice sad xs.length scap,.slice wad wh.length wcap,.bool group,.slice keys.ad keys.xs.length keys.cap,.slice sums.ad sums.xs.length sums.cap,.slice sel.ad sel.xs.length sel.cap,.slice ord.ad ord.xs.length ord.cap,.slice da dm dc] 29);have hX:=hx.below hb;have hQ:=IntsAt.below hb hq;have c0:(w.alloc (.cells #[.slice co ts.length cc,.slice sad xs.length scap,.slice wad wh.length wcap,.bool group,.slice keys.ad keys.xs.length keys.cap,.slice sums.ad sums.xs.length sums.cap,.slice sel.ad sel.xs.length sel.cap,.slice ord.ad ord.xs.length ord.cap,.slice da dm dc] 29)).cell? (aD w.heap.size 0)=some (.slice co ts.length cc):=by simp
 have c1:(w.alloc (.cells #[.slice co ts.length cc,.slice sad xs.length scap,.slice wad wh.length wcap,.bool group,.slice keys.ad keys.xs.length keys.cap,.slice sums.ad sums.xs.length sums.cap,.slice sel.ad sel.xs.length sel.cap,.slice ord.ad ord.xs.length ord.cap,.slice da dm dc] 29)).cell? (aD w.heap.size 1)=some (.slice sad xs.length scap):=by simp
 have HB:Hid _:=hb;clear hc ha hx hq hb;go_enter Tryz.func22,Tryz.ntmps22;go_wp2;obtain⟨w1,hw1⟩:∃ w1,w.alloc (.cells #[.slice co ts.length cc,.slice sad xs.length scap,.slice wad wh.length wcap,.bool group,.slice keys.ad keys.xs.length keys.cap,.slice sums.ad sums.xs.length sums.cap,.slice sel.ad sel.xs.length sel.cap,.slice ord.ad ord.xs.length ord.cap,.slice da dm dc] 29)=w1:=⟨_,rfl⟩
 rw[hw1] at HB hX hQ c0 c1;rw[hw1];clear hw1;go_loopw [3,4] (fun n i wr=>∃ k:Nat,k<=xs.length/\i=.int .i64 k/\n=.int .i64 (widthN ts (xs.take k))/\Below w1.heap.size w1 wr) (fun _ i _=>xs.length-(intOf i).toNat)
 case atStart=>exact⟨0,Nat.zero_le _,rfl,rfl,Below.refl _ _⟩
 case round=>
  obtain⟨k,hk,rfl,rfl,hbr⟩:=hrel;have hbd:=widthN_bd HC.out HA.out k hk;have d0:=cB hbr c0;have d1:=cB hbr c1;by_cases hlt:k<xs.length
  ·obtain⟨sb,soff,rfl,hs⟩:=hQ.get hlt;have hsk:=cB hbr (hs k hlt);have hr:=allB_at HA.out hlt;have hcol:=cols_of HC.out (i:=xs[k].toNat) (by omega);obtain⟨b,off,rfl,t0,-⟩:=hX.2 xs[k].toNat (by omega);have hck:=cB hbr t0;have HS:Hid (widthN ts (xs.take (k+1))=widthN ts (xs.take k)+(ts.getD xs[k].toNat tz).cols):=widthN_snoc ts xs k hlt;generalize (ts.getD xs[k].toNat tz).cols=cl at *;generalize widthN ts (xs.take k)=W0 at *;have e1:xs.getD k 0=xs[k]:=by simp[List.getD,hlt]
   rw[e1] at hsk;clear hs t0 hX hQ e1;generalize hxk:xs[k]=xk at *;clear hxk;obtain⟨xn,rfl⟩:∃ xn:Nat,xk=(xn:Int):=⟨xk.toNat,by omega⟩
   simp only[Int.toNat_natCast] at hck;have hxl:xn<ts.length:=by omega
   have hwr:wrap64 (W0+cl)=W0+cl:=by unfold wrap64; omega
   go_wp2;go_quiet (fail);go_wp2;go_roundw
   case rel=>exact⟨k+1,by omega,by go_num,by rw[HS.out],below_drewN hbr _⟩
   case measure=>simp[intOf]; omega
  ·go_wp2;go_ret;have:k=xs.length:=by omega
   subst this;exact⟨ret_int (by rw[List.take_length]),HB.out.trans (hbr.mono HB.out.size)⟩
end Go.Proofs.YtlpbelhfpoilpabGreatDoor
